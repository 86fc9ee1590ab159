/-
  A net in memory, and its sums and answers at a sample, of the program. Conditions: the widths are 0 to 4; the patterns are 0 to 2^32 - 1; the blocks are apart.
-/
import Derived.Test.YtoihkljlekknkaaGreatAp7
namespace Go.Proofs.YtoihkljlekknkaaGreat
open Go.RowKit
open Go.Joins (cell_of_block unfrozen_of_block)
set_option linter.unusedVariables false
set_option linter.unusedSimpArgs false
/-- where a net's parts lie -/
structure Nt where
 (c : Cf) (m N Bb cB : Nat) (A : Option Addr) (tN tB : TypeId) (gs ga : Nat → Nat)
/-- a sample's first part, where it lies -/
structure Gv where
 (gx ox cx : Nat)
def Gv.b (g : Gv) (t : Nt) : Nat → Nat
 | 0 => g.gx
 | j + 1 => t.ga j
def Gv.o (g : Gv) : Nat → Nat
 | 0 => g.ox
 | _ + 1 => 0
def Gv.c (g : Gv) (t : Nt) : Nat → Nat
 | 0 => g.cx
 | j + 1 => wn t.c (j + 1)
def Gv.v (g : Gv) (t : Nt) (k : Nat) : Value := .slice (some ⟨g.b t k, g.o k, none⟩) (wn t.c k) (g.c t k)
structure Nt.ok (t : Nt) : Prop where
 wb : WB t.c
 m3 : t.m < 3
 one : ∀ k, k ≤ t.m + 1 → 1 ≤ wn t.c k
 A : 0 < t.m → t.A = some ⟨t.Bb, 0, none⟩
 nB : t.N ≠ t.Bb
 Ns : ∀ k, k ≤ t.m → t.N ≠ t.gs k
 Na : ∀ k, k < t.m → t.N ≠ t.ga k
 Bs : ∀ k, k ≤ t.m → t.Bb ≠ t.gs k
 Ba : ∀ k, k < t.m → t.Bb ≠ t.ga k
 ss : ∀ j k, j ≤ t.m → k ≤ t.m → j ≠ k → t.gs j ≠ t.gs k
 aa : ∀ j k, j < t.m → k < t.m → j ≠ k → t.ga j ≠ t.ga k
 sa : ∀ j k, j ≤ t.m → k < t.m → t.gs j ≠ t.ga k
/-- the blocks that a net writes -/
def Nt.O (t : Nt) (k : Nat) : Prop := k = t.N ∨ (0 < t.m ∧ k = t.Bb) ∨ (∃ j, j ≤ t.m ∧ k = t.gs j) ∨ (∃ j, j < t.m ∧ k = t.ga j)
structure LastOK (t : Nt) (C : Array Value) : Prop where
 c0 : C[0]? = some (.slice t.A t.m t.cB)
 c1 : C[1]? = some (.int .i64 (wn t.c t.m : Int))
 c2 : C[1 + 1]? = some (.int .i64 (wn t.c (t.m + 1) : Int))
 c3 : C[1 + 2]? = some (.int .i64 (sn t.c t.m : Int))
 c4 : 1 + 3 < C.size
 c5 : C[1 + 4]? = some (.slice (some ⟨t.gs t.m, 0, none⟩) (wn t.c (t.m + 1)) (wn t.c (t.m + 1)))
 c6 : C[1 + 5]? = some (.int .i64 t.c.loss)
structure BentOK (t : Nt) (C : Array Value) (k : Nat) : Prop where
 c0 : C[k * 7]? = some (.int .i64 (wn t.c k : Int))
 c1 : C[k * 7 + 1]? = some (.int .i64 (wn t.c (k + 1) : Int))
 c2 : C[k * 7 + 2]? = some (.int .i64 (sn t.c k : Int))
 c3 : k * 7 + 3 < C.size
 c4 : C[k * 7 + 4]? = some (.slice (some ⟨t.gs k, 0, none⟩) (wn t.c (k + 1)) (wn t.c (k + 1)))
 c5 : C[k * 7 + 5]? = some (.int .i64 t.c.bend)
 c6 : C[k * 7 + 6]? = some (.slice (some ⟨t.ga k, 0, none⟩) (wn t.c (k + 1)) (wn t.c (k + 1)))
theorem LastOK.set {t : Nt} {C : Array Value} (h : LastOK t C) (v : Value) : LastOK t (C.setIfInBounds (1 + 3) v) := by
 have z : ∀ i, i ≠ 1 + 3 → (C.setIfInBounds (1 + 3) v)[i]? = C[i]? := fun i hi => Array.getElem?_setIfInBounds_ne (fun e => hi e.symm)
 exact ⟨(z _ (by omega)).trans h.c0, (z _ (by omega)).trans h.c1, (z _ (by omega)).trans h.c2, (z _ (by omega)).trans h.c3, by rw [Array.size_setIfInBounds]; exact h.c4, (z _ (by omega)).trans h.c5, (z _ (by omega)).trans h.c6⟩
theorem BentOK.set {t : Nt} {C : Array Value} {k : Nat} (h : BentOK t C k) (j : Nat) (v : Value) : BentOK t (C.setIfInBounds (j * 7 + 3) v) k := by
 have z : ∀ i, i ≠ j * 7 + 3 → (C.setIfInBounds (j * 7 + 3) v)[i]? = C[i]? := fun i hi => Array.getElem?_setIfInBounds_ne (fun e => hi e.symm)
 exact ⟨(z _ (by omega)).trans h.c0, (z _ (by omega)).trans h.c1, (z _ (by omega)).trans h.c2, by rw [Array.size_setIfInBounds]; exact h.c3, (z _ (by omega)).trans h.c4, (z _ (by omega)).trans h.c5, (z _ (by omega)).trans h.c6⟩
/-- a net in memory: so many layers' sums are done, and so many layers' answers -/
structure NetS (t : Nt) (par x : List Int) (g : Gv) (ks ka : Nat) (w : World) : Prop where
 nb : ∃ C, w.heap[t.N]? = some (.cells C t.tN (0, 0)) ∧ LastOK t C ∧ (t.m < ks → C[1 + 3]? = some (g.v t t.m))
 bb : 0 < t.m → ∃ C, w.heap[t.Bb]? = some (.cells C t.tB (0, 0)) ∧ ∀ k, k < t.m → BentOK t C k ∧ (k < ks → C[k * 7 + 3]? = some (g.v t k))
 su : ∀ k, k ≤ t.m → ∃ l, w.heap[t.gs k]? = some (.cells (u32s l) 29 (0, 0)) ∧ l.length = wn t.c (k + 1) ∧ (k < ks → l = SM t.c par x k)
 an : ∀ k, k < t.m → ∃ l, w.heap[t.ga k]? = some (.cells (u32s l) 29 (0, 0)) ∧ l.length = wn t.c (k + 1) ∧ (k < ka → l = AN t.c par x (k + 1))
theorem NetS.anew {t : Nt} {par x : List Int} {g : Gv} {ks ka : Nat} {w : World} (h : NetS t par x g ks ka w) (par' x' : List Int) (g' : Gv) : NetS t par' x' g' 0 0 w := by
 refine ⟨?_, fun hm => ?_, fun k hk => ?_, fun k hk => ?_⟩
 · obtain ⟨C, h1, h2, _⟩ := h.nb; exact ⟨C, h1, h2, fun e => absurd e (by omega)⟩
 · obtain ⟨C, h1, h2⟩ := h.bb hm; exact ⟨C, h1, fun k hk => ⟨(h2 k hk).1, fun e => absurd e (by omega)⟩⟩
 · obtain ⟨l, h1, h2, _⟩ := h.su k hk; exact ⟨l, h1, h2, fun e => absurd e (by omega)⟩
 · obtain ⟨l, h1, h2, _⟩ := h.an k hk; exact ⟨l, h1, h2, fun e => absurd e (by omega)⟩
/-- what turns no block of the net keeps it -/
theorem NetS.keep {t : Nt} {par x : List Int} {g : Gv} {ks ka : Nat} {w w' : World} (h : NetS t par x g ks ka w) (k : ∀ b, t.O b → b < w.heap.size → w'.heap[b]? = w.heap[b]?) : NetS t par x g ks ka w' := by
 refine ⟨?_, fun hm => ?_, fun j hj => ?_, fun j hj => ?_⟩
 · obtain ⟨C, h1, h2⟩ := h.nb; exact ⟨C, (k _ (Or.inl rfl) (lt_of_heap h1)).trans h1, h2⟩
 · obtain ⟨C, h1, h2⟩ := h.bb hm; exact ⟨C, (k _ (Or.inr (Or.inl ⟨hm, rfl⟩)) (lt_of_heap h1)).trans h1, h2⟩
 · obtain ⟨l, h1, h2⟩ := h.su j hj; exact ⟨l, (k _ (Or.inr (Or.inr (Or.inl ⟨j, hj, rfl⟩))) (lt_of_heap h1)).trans h1, h2⟩
 · obtain ⟨l, h1, h2⟩ := h.an j hj; exact ⟨l, (k _ (Or.inr (Or.inr (Or.inr ⟨j, hj, rfl⟩))) (lt_of_heap h1)).trans h1, h2⟩
theorem NetS.below {t : Nt} {par x : List Int} {g : Gv} {ks ka : Nat} {w w' : World} (h : NetS t par x g ks ka w) (b : Below w.heap.size w w') : NetS t par x g ks ka w' := h.keep fun k _ hk => b.block k hk
theorem NetS.but {t : Nt} {par x : List Int} {g : Gv} {ks ka : Nat} {w w' : World} {P : Nat → Prop} (h : NetS t par x g ks ka w) (b : But P w w') (hP : ∀ k, t.O k → ¬ P k) : NetS t par x g ks ka w' := h.keep fun k hO hk => b.block k hk (hP k hO)
theorem NetS.low {t : Nt} {par x : List Int} {g : Gv} {ks ka : Nat} {w : World} (h : NetS t par x g ks ka w) (b : Nat) (hb : t.O b) : b < w.heap.size := by
 rcases hb with rfl | ⟨hm, rfl⟩ | ⟨j, hj, rfl⟩ | ⟨j, hj, rfl⟩
 · obtain ⟨C, h1, h2⟩ := h.nb; exact lt_of_heap h1
 · obtain ⟨C, h1, h2⟩ := h.bb hm; exact lt_of_heap h1
 · obtain ⟨l, h1, h2⟩ := h.su j hj; exact lt_of_heap h1
 · obtain ⟨l, h1, h2⟩ := h.an j hj; exact lt_of_heap h1
/-- parameters and a sample's first part in memory, apart from the net -/
structure Inp (t : Nt) (par x : List Int) (g : Gv) (gp cp : Nat) (w : World) : Prop where
 pl : gp < w.heap.size
 pO : ¬ t.O gp
 pc : ∀ i, i < par.length → w.cell? ⟨gp, i, none⟩ = some (.int .u32 (par.getD i 0))
 pp : pats par
 plen : par.length = sn t.c (t.m + 1)
 xl : g.gx < w.heap.size
 xO : ¬ t.O g.gx
 xc : ∀ i, i < wn t.c 0 → w.cell? ⟨g.gx, g.ox + i, none⟩ = some (.int .u32 (x.getD i 0))
 px : pats x
 ox : g.ox ≤ 1000
theorem Inp.but {t : Nt} {par x : List Int} {g : Gv} {gp cp : Nat} {w w' : World} (h : Inp t par x g gp cp w) (b : But t.O w w') : Inp t par x g gp cp w' :=
 ⟨Nat.lt_of_lt_of_le h.pl b.size, h.pO, fun i hi => (b.cell h.pl h.pO i).trans (h.pc i hi), h.pp, h.plen, Nat.lt_of_lt_of_le h.xl b.size, h.xO, fun i hi => (b.cell h.xl h.xO _).trans (h.xc i hi), h.px, h.ox⟩
/-- the answers ahead of layer k, where they lie -/
theorem given_at {t : Nt} {par x : List Int} {g : Gv} {gp cp k ks : Nat} {w : World} (ok : t.ok) (h : NetS t par x g ks k w) (i : Inp t par x g gp cp w) (hk : k ≤ t.m) : g.b t k < w.heap.size ∧ (∀ j, j < wn t.c k → w.cell? ⟨g.b t k, g.o k + j, none⟩ = some (.int .u32 ((AN t.c par x k).getD j 0))) ∧ (∀ j, j ≤ t.m → g.b t k ≠ t.gs j) ∧ (0 < t.m → g.b t k ≠ t.Bb) ∧ g.b t k ≠ t.N ∧ g.o k ≤ 1000 := by
 cases k with
 | zero => exact ⟨i.xl, i.xc, fun j hj e => i.xO (Or.inr (Or.inr (Or.inl ⟨j, hj, e⟩))), fun hm e => i.xO (Or.inr (Or.inl ⟨hm, e⟩)), fun e => i.xO (Or.inl e), i.ox⟩
 | succ k =>
   obtain ⟨l, h1, h2, h3⟩ := h.an k (by omega)
   have e := h3 (by omega)
   refine ⟨lt_of_heap h1, fun j hj => ?_, fun j hj e => ok.sa j k hj (by omega) e.symm, fun _ e => ok.Ba k (by omega) e.symm, fun e => ok.Na k (by omega) e.symm, Nat.zero_le _⟩
   show w.cell? ⟨t.ga k, 0 + j, none⟩ = _
   rw [Nat.zero_add, cell_of_block h1, u32s_at l j (by omega), e]
theorem fw_add {t : Nt} {par x : List Int} {g : Gv} {gp cp k : Nat} {w : World} (ok : t.ok) (h : NetS t par x g k k w) (i : Inp t par x g gp cp w) (hk : k < t.m) :
 Calls Tryz.prog 113 #[.pointer (some ⟨t.Bb, k * 7, none⟩), .slice (some ⟨gp, 0, none⟩) par.length cp, g.v t k] w fun e w' => e = .returned (.tuple #[]) ∧ NetS t par x g (k + 1) k w' ∧ But t.O w w' := by
 obtain ⟨C, hB, hC⟩ := h.bb (by omega)
 obtain ⟨bk, _⟩ := hC k hk
 obtain ⟨l, hs, hl, _⟩ := h.su k (by omega)
 obtain ⟨g1, g2, g3, g4, g5, g6⟩ := given_at ok h i (by omega)
 have r := sn_room ok.wb k t.m (by omega) ok.m3
 have s60 := sn_le ok.wb (t.m + 1) (by have := ok.m3; omega)
 have m3 := ok.m3
 refine (ladd_any t.Bb (k * 7) (t.gs k) gp (g.b t k) (g.o k) par.length cp (g.c t k) (wn t.c (k + 1)) (wn t.c (k + 1)) (sn t.c k) (wn t.c k) C (u32s l) t.tB par (AN t.c par x k) w hB bk.c0 bk.c2 bk.c3 bk.c4 hs (by rw [u32s_size]; exact hl) i.pl i.pc g1 g2 (ok.Bs k (by omega)) (fun e => i.pO (Or.inr (Or.inl ⟨by omega, e⟩))) (fun e => i.pO (Or.inr (Or.inr (Or.inl ⟨k, by omega, e⟩)))) (g4 (by omega)) (g3 k (by omega)) i.pp (AN_pats t.c i.pp i.px k) (wn_le ok.wb k (by omega)) (wn_le ok.wb (k + 1) (by omega)) (by have := sn_le ok.wb k (by omega); omega) (by rw [i.plen]; exact r) (by rw [i.plen]; omega) g6).mono ?_
 rintro e w' ⟨rfl, h1, h2, h3⟩
 have keep : ∀ b, b ≠ t.Bb → b ≠ t.gs k → b < w.heap.size → w'.heap[b]? = w.heap[b]? := fun b n1 n2 hb => h3.block b hb (by rintro (e | e); exact n1 e; exact n2 e)
 refine ⟨rfl, ⟨?_, fun _ => ⟨_, h1, fun j hj => ⟨(hC j hj).1.set k _, fun hjk => ?_⟩⟩, fun j hj => ?_, fun j hj => ?_⟩, h3.mono fun j hj => ?_⟩
 · obtain ⟨D, d1, d2, d3⟩ := h.nb
   exact ⟨D, (keep _ ok.nB (ok.Ns k (by omega)) (lt_of_heap d1)).trans d1, d2, fun e => absurd e (by omega)⟩
 · by_cases e : j = k
   · subst e; rw [Array.getElem?_setIfInBounds_self_of_lt bk.c3]; rfl
   · rw [Array.getElem?_setIfInBounds_ne (by omega)]; exact (hC j hj).2 (by omega)
 · by_cases e : j = k
   · subst e; exact ⟨_, h2, SUMS_len _ _ _ _ _, fun _ => rfl⟩
   · obtain ⟨l', q1, q2, q3⟩ := h.su j hj
     exact ⟨l', (keep _ (Ne.symm (ok.Bs j hj)) (ok.ss j k hj (by omega) e) (lt_of_heap q1)).trans q1, q2, fun e => q3 (by omega)⟩
 · obtain ⟨l', q1, q2, q3⟩ := h.an j hj
   exact ⟨l', (keep _ (Ne.symm (ok.Ba j hj)) (Ne.symm (ok.sa k j (by omega) hj)) (lt_of_heap q1)).trans q1, q2, q3⟩
 · rcases hj with e | e
   · exact Or.inr (Or.inl ⟨by omega, e⟩)
   · exact Or.inr (Or.inr (Or.inl ⟨k, by omega, e⟩))
theorem fw_ans {t : Nt} {par x : List Int} {g : Gv} {k : Nat} {w : World} (ok : t.ok) (pp : pats par) (h : NetS t par x g (k + 1) k w) (hk : k < t.m) :
 Calls Tryz.prog 114 #[.pointer (some ⟨t.Bb, k * 7, none⟩)] w fun e w' => e = .returned (.tuple #[]) ∧ NetS t par x g (k + 1) (k + 1) w' ∧ But t.O w w' := by
 obtain ⟨C, hB, hC⟩ := h.bb (by omega)
 obtain ⟨bk, _⟩ := hC k hk
 obtain ⟨l, hs, hl, he⟩ := h.su k (by omega)
 obtain ⟨l2, ha, hl2, _⟩ := h.an k hk
 have e := he (by omega)
 subst e
 have m3 := ok.m3
 refine (answer_any t.Bb (k * 7) (t.ga k) (t.gs k) (wn t.c (k + 1)) (wn t.c (k + 1)) (wn t.c (k + 1)) t.c.bend (SM t.c par x k) l2 w (lt_of_heap hB) (lt_of_heap hs) ((cell_of_block hB _).trans bk.c4) ((cell_of_block hB _).trans bk.c5) ((cell_of_block hB _).trans bk.c6) (fun i hi => by rw [cell_of_block hs, u32s_at _ i (by omega)]) ha hl2 (ok.Ba k hk) (ok.sa k k (by omega) hk) (SM_pats t.c pp x k) (wn_le ok.wb (k + 1) (by omega))).mono ?_
 rintro e w' ⟨rfl, h1, h3⟩
 have keep : ∀ b, b ≠ t.ga k → b < w.heap.size → w'.heap[b]? = w.heap[b]? := fun b n1 hb => h3.block b hb n1
 refine ⟨rfl, ⟨?_, fun _ => ⟨C, (keep _ (ok.Ba k hk) (lt_of_heap hB)).trans hB, hC⟩, fun j hj => ?_, fun j hj => ?_⟩, h3.mono fun j hj => Or.inr (Or.inr (Or.inr ⟨k, hk, hj⟩))⟩
 · obtain ⟨D, d1, d2, d3⟩ := h.nb
   exact ⟨D, (keep _ (ok.Na k hk) (lt_of_heap d1)).trans d1, d2, d3⟩
 · obtain ⟨l', q1, q2, q3⟩ := h.su j hj
   exact ⟨l', (keep _ (ok.sa j k hj hk) (lt_of_heap q1)).trans q1, q2, q3⟩
 · by_cases e : j = k
   · subst e; exact ⟨_, h1, ANS_len _ _ _, fun _ => rfl⟩
   · obtain ⟨l', q1, q2, q3⟩ := h.an j hj
     exact ⟨l', (keep _ (ok.aa j k hj hk e) (lt_of_heap q1)).trans q1, q2, fun e => q3 (by omega)⟩
theorem fw_last {t : Nt} {par x : List Int} {g : Gv} {gp cp : Nat} {w : World} (ok : t.ok) (h : NetS t par x g t.m t.m w) (i : Inp t par x g gp cp w) :
 Calls Tryz.prog 113 #[.pointer (some ⟨t.N, 1, none⟩), .slice (some ⟨gp, 0, none⟩) par.length cp, g.v t t.m] w fun e w' => e = .returned (.tuple #[]) ∧ NetS t par x g (t.m + 1) t.m w' ∧ But t.O w w' := by
 obtain ⟨C, hB, bk, _⟩ := h.nb
 obtain ⟨l, hs, hl, _⟩ := h.su t.m (Nat.le_refl _)
 obtain ⟨g1, g2, g3, g4, g5, g6⟩ := given_at ok h i (Nat.le_refl _)
 have r := sn_room ok.wb t.m t.m (Nat.le_refl _) ok.m3
 have m3 := ok.m3
 have s60 := sn_le ok.wb (t.m + 1) (by omega)
 refine (ladd_any t.N 1 (t.gs t.m) gp (g.b t t.m) (g.o t.m) par.length cp (g.c t t.m) (wn t.c (t.m + 1)) (wn t.c (t.m + 1)) (sn t.c t.m) (wn t.c t.m) C (u32s l) t.tN par (AN t.c par x t.m) w hB bk.c1 bk.c3 bk.c4 bk.c5 hs (by rw [u32s_size]; exact hl) i.pl i.pc g1 g2 (ok.Ns t.m (Nat.le_refl _)) (fun e => i.pO (Or.inl e)) (fun e => i.pO (Or.inr (Or.inr (Or.inl ⟨t.m, Nat.le_refl _, e⟩)))) g5 (g3 t.m (Nat.le_refl _)) i.pp (AN_pats t.c i.pp i.px t.m) (wn_le ok.wb t.m (by omega)) (wn_le ok.wb (t.m + 1) (by omega)) (by have := sn_le ok.wb t.m (by omega); omega) (by rw [i.plen]; exact r) (by rw [i.plen]; omega) g6).mono ?_
 rintro e w' ⟨rfl, h1, h2, h3⟩
 have keep : ∀ b, b ≠ t.N → b ≠ t.gs t.m → b < w.heap.size → w'.heap[b]? = w.heap[b]? := fun b n1 n2 hb => h3.block b hb (by rintro (e | e); exact n1 e; exact n2 e)
 refine ⟨rfl, ⟨⟨_, h1, bk.set _, fun _ => ?_⟩, fun hm => ?_, fun j hj => ?_, fun j hj => ?_⟩, h3.mono fun j hj => ?_⟩
 · rw [Array.getElem?_setIfInBounds_self_of_lt bk.c4]; rfl
 · obtain ⟨D, d1, d2⟩ := h.bb hm
   exact ⟨D, (keep _ (Ne.symm ok.nB) (ok.Bs t.m (Nat.le_refl _)) (lt_of_heap d1)).trans d1, fun j hj => ⟨(d2 j hj).1, fun _ => (d2 j hj).2 hj⟩⟩
 · by_cases e : j = t.m
   · subst e; exact ⟨_, h2, SUMS_len _ _ _ _ _, fun _ => rfl⟩
   · obtain ⟨l', q1, q2, q3⟩ := h.su j hj
     exact ⟨l', (keep _ (Ne.symm (ok.Ns j hj)) (ok.ss j t.m hj (Nat.le_refl _) e) (lt_of_heap q1)).trans q1, q2, fun e => q3 (by omega)⟩
 · obtain ⟨l', q1, q2, q3⟩ := h.an j hj
   exact ⟨l', (keep _ (Ne.symm (ok.Na j hj)) (Ne.symm (ok.sa t.m j (Nat.le_refl _) hj)) (lt_of_heap q1)).trans q1, q2, q3⟩
 · rcases hj with e | e
   · exact Or.inl e
   · exact Or.inr (Or.inr (Or.inl ⟨t.m, Nat.le_refl _, e⟩))
end Go.Proofs.YtoihkljlekknkaaGreat
/-
  A net's sums and answers at a sample, all layers, of the program. Conditions: as for the net in memory.
-/
namespace Go.Proofs.YtoihkljlekknkaaGreat
open Go.RowKit
open Go.Joins (cell_of_block unfrozen_of_block)
set_option linter.unusedVariables false
set_option linter.unusedSimpArgs false
theorem NetS.c0 {t : Nt} {par x : List Int} {g : Gv} {ks ka : Nat} {w : World} (h : NetS t par x g ks ka w) : w.cell? ⟨t.N, 0, none⟩ = some (.slice t.A t.m t.cB) := by
 obtain ⟨C, h1, h2, _⟩ := h.nb; exact (cell_of_block h1 _).trans h2.c0
theorem NetS.c6 {t : Nt} {par x : List Int} {g : Gv} {ks ka k : Nat} {w : World} (h : NetS t par x g ks ka w) (hk : k < t.m) : w.cell? ⟨t.Bb, k * 7 + 6, none⟩ = some (g.v t (k + 1)) := by
 obtain ⟨C, h1, h2⟩ := h.bb (by omega); exact (cell_of_block h1 _).trans (h2 k hk).1.c6
set_option maxHeartbeats 4000000 in
set_option maxRecDepth 100000 in
theorem forward_any (t : Nt) (par x : List Int) (g : Gv) (gp cp : Nat) (w : World) (ok : t.ok) (h : NetS t par x g 0 0 w) (i : Inp t par x g gp cp w) :
 Calls Tryz.prog 86 #[.pointer (some ⟨t.N, 0, none⟩), .slice (some ⟨gp, 0, none⟩) par.length cp, g.v t 0] w fun e w' => e = .returned (.tuple #[]) ∧ NetS t par x g (t.m + 1) t.m w' ∧ But t.O w w' := by
 have n0 := h.c0
 have OK : Hid _ := ok
 have H0 : Hid _ := h
 have I0 : Hid _ := i
 obtain ⟨N, hN⟩ : ∃ N, N = t.N := ⟨_, rfl⟩
 obtain ⟨m, hm⟩ : ∃ m, m = t.m := ⟨_, rfl⟩
 obtain ⟨A, hA⟩ : ∃ A, A = t.A := ⟨_, rfl⟩
 obtain ⟨cB, hcB⟩ : ∃ A, A = t.cB := ⟨_, rfl⟩
 obtain ⟨np, hnp⟩ : ∃ A, A = par.length := ⟨_, rfl⟩
 rw [← hN, ← hm, ← hA, ← hcB] at n0
 rw [← hN, ← hnp]
 have HN : Hid _ := hN
 have HM : Hid _ := hm
 have HA : Hid _ := hA
 have HC : Hid _ := hcB
 have HP : Hid _ := hnp
 have m3 : m < 3 := by rw [hm]; exact ok.m3
 clear ok h i hN hm hA hcB hnp
 go_enter Tryz.func86, Tryz.ntmps86
 go_wp2
 go_loopw [6, 15] (fun gv kv wr => ∃ k : Nat, k ≤ m ∧ kv = .int .i64 k ∧ gv = g.v t k ∧ Hid (NetS t par x g k k wr) ∧ Hid (Inp t par x g gp cp wr) ∧ Hid (But t.O w wr)) (fun _ kv _ => m - (intOf kv).toNat)
 case atStart => exact ⟨0, by omega, rfl, rfl, H0.out, I0.out, But.refl _ _⟩
 case round =>
  clear n0 H0 I0
  obtain ⟨k, hk, rfl, rfl, HS, HI, HU⟩ := hrel
  have n1 : wr.cell? ⟨N, 0, none⟩ = some (.slice A m cB) := by rw [HN.out, HM.out, HA.out, HC.out]; exact HS.out.c0
  by_cases hlt : k < m
  · have km : Hid (k < t.m) := by show _ < _; rw [← HM.out]; exact hlt
    have ea : A = some ⟨t.Bb, 0, none⟩ := by rw [HA.out]; exact OK.out.A (by have := km.out; omega)
    have AD : Hid (Calls Tryz.prog 113 #[.pointer (some ⟨t.Bb, k * 7, none⟩), .slice (some ⟨gp, 0, none⟩) np cp, g.v t k] wr fun e w' => e = .returned (.tuple #[]) ∧ NetS t par x g (k + 1) k w' ∧ But t.O wr w') := by
     show Calls _ _ _ _ _; rw [HP.out]; exact fw_add OK.out HS.out HI.out km.out
    have AN' : Hid (∀ V, NetS t par x g (k + 1) k V → Calls Tryz.prog 114 #[.pointer (some ⟨t.Bb, k * 7, none⟩)] V fun e w' => e = .returned (.tuple #[]) ∧ NetS t par x g (k + 1) (k + 1) w' ∧ But t.O V w') := fun V hV => fw_ans OK.out HI.out.pp hV km.out
    have C6 : Hid (∀ V, NetS t par x g (k + 1) (k + 1) V → V.cell? ⟨t.Bb, k * 7 + 6, none⟩ = some (g.v t (k + 1))) := fun V hV => hV.c6 km.out
    subst ea
    obtain ⟨Bb, hBb⟩ : ∃ A, A = t.Bb := ⟨_, rfl⟩
    rw [← hBb] at AD AN' C6 n1
    have kl : (k : Int) < (m : Int) := by omega
    have k0 : (0 : Int) ≤ (k : Int) := by omega
    clear hBb
    go_wp2_with (first
     | (go_at_call 113; refine AD.out.mono ?_; rintro e w2 ⟨rfl, h2, b2⟩
        have S2 : Hid _ := h2
        have U2 : Hid _ := b2
        clear h2 b2)
     | (go_at_call 114; refine (AN'.out _ S2.out).mono ?_; rintro e w3 ⟨rfl, h3, b3⟩
        have S3 : Hid _ := h3
        have U3 : Hid _ := b3
        have c6 := C6.out _ h3
        clear h3 b3))
    go_roundw
    case rel => exact ⟨k + 1, by omega, by go_num, rfl, S3.out, HI.out.but (U2.out.trans U3.out), HU.out.trans (U2.out.trans U3.out)⟩
    case measure => simp [intOf]; omega
  · have hke : k = m := by omega
    have AD : Hid (Calls Tryz.prog 113 #[.pointer (some ⟨N, 1, none⟩), .slice (some ⟨gp, 0, none⟩) np cp, g.v t k] wr fun e w' => e = .returned (.tuple #[]) ∧ NetS t par x g (t.m + 1) t.m w' ∧ But t.O wr w') := by
     have e : k = t.m := by rw [← HM.out]; exact hke
     have S1 := HS.out
     rw [e] at S1
     show Calls _ _ _ _ _; rw [HP.out, HN.out, e]; exact fw_last OK.out S1 HI.out
    clear hke
    go_wp2_with (first
     | (go_at_call 113; refine AD.out.mono ?_; rintro e w2 ⟨rfl, h2, b2⟩
        have S2 : Hid _ := h2
        have U2 : Hid _ := b2
        clear h2 b2))
    go_end0
    exact ⟨rfl, S2.out, HU.out.trans U2.out⟩
end Go.Proofs.YtoihkljlekknkaaGreat
/-
  The slopes of one sample, layer by layer, of the program: what each of its calls does. Conditions: as for the net in memory.
-/
namespace Go.Proofs.YtoihkljlekknkaaGreat
open Go.RowKit
open Go.Joins (cell_of_block unfrozen_of_block)
set_option linter.unusedVariables false
set_option linter.unusedSimpArgs false
/-- what is wanted of a sample, in memory, apart from the net -/
structure InY (t : Nt) (y : List Int) (gy oy : Nat) (w : World) : Prop where
 yl : gy < w.heap.size
 yO : ¬ t.O gy
 yc : ∀ i, i < wn t.c (t.m + 1) → w.cell? ⟨gy, oy + i, none⟩ = some (.int .u32 (y.getD i 0))
 py : pats y
 oy : oy ≤ 1000
theorem InY.but {t : Nt} {y : List Int} {gy oy : Nat} {w w' : World} (h : InY t y gy oy w) (b : But t.O w w') : InY t y gy oy w' :=
 ⟨Nat.lt_of_lt_of_le h.yl b.size, h.yO, fun i hi => (b.cell h.yl h.yO _).trans (h.yc i hi), h.py, h.oy⟩
theorem InY.below {t : Nt} {y : List Int} {gy oy : Nat} {w w' : World} (h : InY t y gy oy w) (b : Below w.heap.size w w') : InY t y gy oy w' := h.but (But.below b)
theorem Inp.below {t : Nt} {par x : List Int} {g : Gv} {gp cp : Nat} {w w' : World} (h : Inp t par x g gp cp w) (b : Below w.heap.size w w') : Inp t par x g gp cp w' := h.but (But.below b)
/-- the layer behind: where its struct lies -/
def Nt.bB (t : Nt) (q : Nat) : Nat := if q = t.m then t.N else t.Bb
def Nt.bO (t : Nt) (q : Nat) : Nat := if q = t.m then 1 else q * 7
theorem ER_succ (c : Cf) (par x y : List Int) (m d k : Nat) (h : k + 1 + d = m) : ER c par x y m (d + 1) = ERS c.bend (BLM par (ER c par x y m d) (sn c (k + 1)) (wn c (k + 1)) (wn c (k + 2))) (SM c par x k) (AN c par x (k + 1)) (wn c (k + 1)) := by
 show ERS _ (BLM _ _ (sn c (m - d)) (wn c (m - d)) (wn c (m - d + 1))) (SM c par x (m - d - 1)) (AN c par x (m - d)) (wn c (m - d)) = _
 rw [show m - d = k + 1 by omega]; rfl
theorem GR_succ (c : Cf) (par x y : List Int) (m d k : Nat) (h : k + 1 + d = m) : GR c par x y m (d + 1) = SLO (ER c par x y m (d + 1)) (AN c par x k) (sn c k) (wn c k) (GR c par x y m d) (wn c (k + 1)) := by
 show SLO _ (AN c par x (m - d - 1)) (sn c (m - d - 1)) (wn c (m - d - 1)) _ (wn c (m - d)) = _
 rw [show m - d = k + 1 by omega]; rfl
set_option maxHeartbeats 1000000 in
theorem parameters_any {t : Nt} {par x : List Int} {g : Gv} {ks ka : Nat} {w : World} (ok : t.ok) (h : NetS t par x g ks ka w) :
 Calls Tryz.prog 26 #[.pointer (some ⟨t.N, 0, none⟩)] w fun e w' => e = .returned (.int .i64 (sn t.c (t.m + 1) : Int)) ∧ Below w.heap.size w w' := by
 have m3 := ok.m3
 have X : Hid (Calls Tryz.prog 53 #[.pointer (some ⟨t.N, 1, none⟩)] w fun e w' => e = .returned (.int .i64 (sn t.c (t.m + 1) : Int)) ∧ Below w.heap.size w w') := by
  obtain ⟨C, h1, h2, _⟩ := h.nb
  have s1 := sn_le ok.wb t.m (by omega)
  have a1 := wn_le ok.wb t.m (by omega)
  have a2 := wn_le ok.wb (t.m + 1) (by omega)
  have := pend_any t.N 1 (sn t.c t.m : Int) (wn t.c t.m : Int) (wn t.c (t.m + 1) : Int) w (by omega) (by omega) (by omega) ((cell_of_block h1 _).trans h2.c1) ((cell_of_block h1 _).trans h2.c2) ((cell_of_block h1 _).trans h2.c3)
  rw [show (sn t.c t.m : Int) + (wn t.c (t.m + 1) : Int) * (1 + (wn t.c t.m : Int)) = (sn t.c (t.m + 1) : Int) by rw [sn_succ ok.wb t.m m3]; simp [Int.add_comm]] at this
  exact this
 obtain ⟨r, hr⟩ : ∃ r, r = (sn t.c (t.m + 1) : Int) := ⟨_, rfl⟩
 obtain ⟨N, hN⟩ : ∃ N, N = t.N := ⟨_, rfl⟩
 rw [← hr, ← hN] at X ⊢
 clear ok h m3 hr hN
 go_enter Tryz.func26, Tryz.ntmps26
 go_wp2_with (first | (go_at_call 53; refine X.out.mono ?_; rintro e w6 ⟨rfl, hb⟩; have B6 : Hid _ := hb; clear hb))
 go_ret
 exact ⟨rfl, B6.out⟩
/-- the slopes under way: the layers down to m - d are done -/
structure SlS (t : Nt) (par x y : List Int) (g : Gv) (gp cp G ge d : Nat) (w : World) : Prop where
 net : NetS t par x g (t.m + 1) t.m w
 inp : Inp t par x g gp cp w
 gG : w.heap[G]? = some (.cells (u32s (GR t.c par x y t.m d)) 29 (0, 0))
 gE : w.heap[ge]? = some (.cells (u32s (ER t.c par x y t.m d)) 29 (0, 0))
 nE : ge ≠ G
 nO : ¬ t.O G
 np : gp ≠ G
 nx : g.gx ≠ G
theorem SlS.below {t : Nt} {par x y : List Int} {g : Gv} {gp cp G ge d : Nat} {w w' : World} (h : SlS t par x y g gp cp G ge d w) (b : Below w.heap.size w w') : SlS t par x y g gp cp G ge d w' :=
 ⟨h.net.below b, h.inp.below b, (b.block _ (lt_of_heap h.gG)).trans h.gG, (b.block _ (lt_of_heap h.gE)).trans h.gE, h.nE, h.nO, h.np, h.nx⟩
/-- the cells of the layer behind -/
theorem behind_at {t : Nt} {par x : List Int} {g : Gv} {ks ka q : Nat} {w : World} (h : NetS t par x g ks ka w) (hq : q ≤ t.m) : t.bB q < w.heap.size ∧ w.cell? ⟨t.bB q, t.bO q, none⟩ = some (.int .i64 (wn t.c q : Int)) ∧ w.cell? ⟨t.bB q, t.bO q + 2, none⟩ = some (.int .i64 (sn t.c q : Int)) := by
 unfold Nt.bB Nt.bO
 by_cases e : q = t.m
 · rw [if_pos e, if_pos e, e]
   obtain ⟨C, h1, h2, _⟩ := h.nb
   exact ⟨lt_of_heap h1, (cell_of_block h1 _).trans h2.c1, (cell_of_block h1 _).trans h2.c3⟩
 · rw [if_neg e, if_neg e]
   obtain ⟨C, h1, h2⟩ := h.bb (by omega)
   exact ⟨lt_of_heap h1, (cell_of_block h1 _).trans (h2 q (by omega)).1.c0, (cell_of_block h1 _).trans (h2 q (by omega)).1.c2⟩
theorem sl_blames {t : Nt} {par x y : List Int} {g : Gv} {gp cp G ge d k ce : Nat} {w : World} (ok : t.ok) (h : SlS t par x y g gp cp G ge d w) (hk : k + 1 + d = t.m) :
 Calls Tryz.prog 90 #[.pointer (some ⟨t.bB (k + 1), t.bO (k + 1), none⟩), .slice (some ⟨gp, 0, none⟩) par.length cp, .slice (some ⟨ge, 0, none⟩) (wn t.c (k + 2)) ce] w fun e w' =>
  e = .returned (.slice (some ⟨w.heap.size, 0, none⟩) (wn t.c (k + 1)) (wn t.c (k + 1))) ∧ w'.heap[w.heap.size]? = some (.cells (u32s (BLM par (ER t.c par x y t.m d) (sn t.c (k + 1)) (wn t.c (k + 1)) (wn t.c (k + 2)))) 29 (0, 0)) ∧ Below w.heap.size w w' := by
 have m3 := ok.m3
 obtain ⟨b1, b2, b3⟩ := behind_at (q := k + 1) h.net (by omega)
 have r := sn_room ok.wb (k + 1) t.m (by omega) m3
 have s60 := sn_le ok.wb (t.m + 1) (by omega)
 have el := ER_len t.c par x y t.m d (by omega)
 rw [show t.m - d + 1 = k + 2 by omega] at el
 exact blames_any (t.bB (k + 1)) (t.bO (k + 1)) gp ge cp ce par.length (wn t.c (k + 2)) (sn t.c (k + 1)) (wn t.c (k + 1)) par (ER t.c par x y t.m d) w b1 h.inp.pl (lt_of_heap h.gE) b2 b3 h.inp.pc (fun i hi => by rw [cell_of_block h.gE, u32s_at _ i (by omega)]) h.inp.pp (ER_pats t.c h.inp.pp x y t.m d) (wn_le ok.wb _ (by omega)) (wn_le ok.wb _ (by omega)) (by have := sn_le ok.wb (k + 1) (by omega); omega) (by rw [h.inp.plen]; exact r) (by rw [h.inp.plen]; omega)
theorem sl_errors {t : Nt} {par x y : List Int} {g : Gv} {gp cp G ge d k gb : Nat} {w : World} (ok : t.ok) (h : SlS t par x y g gp cp G ge d w) (hk : k + 1 + d = t.m)
 (hb : w.heap[gb]? = some (.cells (u32s (BLM par (ER t.c par x y t.m d) (sn t.c (k + 1)) (wn t.c (k + 1)) (wn t.c (k + 2)))) 29 (0, 0))) :
 Calls Tryz.prog 89 #[.pointer (some ⟨t.Bb, k * 7, none⟩), .slice (some ⟨gb, 0, none⟩) (wn t.c (k + 1)) (wn t.c (k + 1))] w fun e w' =>
  e = .returned (.slice (some ⟨w.heap.size, 0, none⟩) (wn t.c (k + 1)) (wn t.c (k + 1))) ∧ w'.heap[w.heap.size]? = some (.cells (u32s (ER t.c par x y t.m (d + 1))) 29 (0, 0)) ∧ Below w.heap.size w w' := by
 have m3 := ok.m3
 rw [ER_succ t.c par x y t.m d k hk]
 obtain ⟨C, hB, hC⟩ := h.net.bb (by omega)
 obtain ⟨bk, _⟩ := hC k (by omega)
 obtain ⟨l1, s1, s2, s3⟩ := h.net.su k (by omega)
 obtain ⟨l2, a1, a2, a3⟩ := h.net.an k (by omega)
 have e1 := s3 (by omega)
 have e2 := a3 (by omega)
 subst e1 e2
 exact berrors_any t.Bb (k * 7) (t.ga k) (t.gs k) gb (wn t.c (k + 1)) (wn t.c (k + 1)) (wn t.c (k + 1)) (wn t.c (k + 1)) t.c.bend _ (SM t.c par x k) (AN t.c par x (k + 1)) w (lt_of_heap hB) (lt_of_heap a1) (lt_of_heap s1) (lt_of_heap hb) ((cell_of_block hB _).trans bk.c1) ((cell_of_block hB _).trans bk.c4) ((cell_of_block hB _).trans bk.c5) ((cell_of_block hB _).trans bk.c6) (fun i hi => by rw [cell_of_block s1, u32s_at _ i (by omega)]) (fun i hi => by rw [cell_of_block a1, u32s_at _ i (by omega)]) (fun i hi => by rw [cell_of_block hb, u32s_at _ i (by rw [BLM_len]; omega)])
  (SM_pats t.c h.inp.pp x k) (AN_pats t.c h.inp.pp h.inp.px (k + 1)) (BLM_pats _ _ _ _ _) (wn_le ok.wb _ (by omega))
/-- a layer's slopes are put in their places -/
theorem sl_slope {t : Nt} {par x y : List Int} {g : Gv} {gp cp G ge d k ge' cl ce : Nat} {w : World} (ok : t.ok) (h : SlS t par x y g gp cp G ge d w) (hk : k + 1 + d = t.m)
 (hE : w.heap[ge']? = some (.cells (u32s (ER t.c par x y t.m (d + 1))) 29 (0, 0))) (nE : ge' ≠ G) :
 Calls Tryz.prog 88 #[.pointer (some ⟨t.Bb, k * 7, none⟩), .slice (some ⟨G, 0, none⟩) (sn t.c (t.m + 1)) cl, .slice (some ⟨ge', 0, none⟩) (wn t.c (k + 1)) ce] w fun e w' =>
  e = .returned (.tuple #[]) ∧ SlS t par x y g gp cp G ge' (d + 1) w' ∧ But (fun j => j = G) w w' := by
 have m3 := ok.m3
 obtain ⟨C, hB, hC⟩ := h.net.bb (by omega)
 obtain ⟨bk, b3⟩ := hC k (by omega)
 have e0 := GR_len t.c par x y t.m d
 have el := ER_len t.c par x y t.m (d + 1) (by omega)
 rw [show t.m - (d + 1) + 1 = k + 1 by omega] at el
 have r := sn_room ok.wb k t.m (by omega) m3
 have s60 := sn_le ok.wb (t.m + 1) (by omega)
 obtain ⟨g1, g2, g3, g4, g5, g6⟩ : g.b t k < w.heap.size ∧ (∀ j, j < wn t.c k → w.cell? ⟨g.b t k, g.o k + j, none⟩ = some (.int .u32 ((AN t.c par x k).getD j 0))) ∧ g.b t k ≠ G ∧ True ∧ True ∧ g.o k ≤ 1000 := by
  cases k with
  | zero => exact ⟨h.inp.xl, h.inp.xc, h.nx, trivial, trivial, h.inp.ox⟩
  | succ k =>
    obtain ⟨l, h1, h2, h3⟩ := h.net.an k (by omega)
    have e := h3 (by omega)
    refine ⟨lt_of_heap h1, fun j hj => ?_, fun e => h.nO (Or.inr (Or.inr (Or.inr ⟨k, by omega, e.symm⟩))), trivial, trivial, Nat.zero_le _⟩
    show w.cell? ⟨t.ga k, 0 + j, none⟩ = _
    rw [Nat.zero_add, cell_of_block h1, u32s_at l j (by omega), e]
 have X := lslope_any t.Bb (k * 7) G ge' (g.b t k) (g.o k) cl ce (g.c t k) (wn t.c (k + 1)) (sn t.c k) (wn t.c k) C t.tB (GR t.c par x y t.m d) (ER t.c par x y t.m (d + 1)) (AN t.c par x k) w hB bk.c0 bk.c2 (b3 (by omega)) h.gG (lt_of_heap hE) (fun i hi => by rw [cell_of_block hE, u32s_at _ i (by omega)]) g1 g2 (fun e => h.nO (Or.inr (Or.inl ⟨by omega, e.symm⟩))) nE g3 (ER_pats t.c h.inp.pp x y t.m (d + 1)) (AN_pats t.c h.inp.pp h.inp.px k) (wn_le ok.wb _ (by omega)) (wn_le ok.wb _ (by omega)) (by have := sn_le ok.wb k (by omega); omega) (by rw [e0]; exact r) (by rw [e0]; omega) g6
 rw [e0] at X
 refine X.mono ?_
 rintro e w' ⟨rfl, h1, h2⟩
 refine ⟨rfl, ⟨h.net.but h2 (fun k hO e => h.nO (e ▸ hO)), ?_, by rw [GR_succ t.c par x y t.m d k hk]; exact h1, (h2.block _ (lt_of_heap hE) nE).trans hE, nE, h.nO, h.np, h.nx⟩, h2⟩
 exact ⟨Nat.lt_of_lt_of_le h.inp.pl h2.size, h.inp.pO, fun i hi => (h2.cell h.inp.pl h.np i).trans (h.inp.pc i hi), h.inp.pp, h.inp.plen, Nat.lt_of_lt_of_le h.inp.xl h2.size, h.inp.xO, fun i hi => (h2.cell h.inp.xl h.nx _).trans (h.inp.xc i hi), h.inp.px, h.inp.ox⟩
/-- the last layer's errors -/
theorem sl_first {t : Nt} {par x y : List Int} {g : Gv} {gp cp gy oy cy : Nat} {w : World} (ok : t.ok) (h : NetS t par x g (t.m + 1) t.m w) (pp : pats par) (hy : InY t y gy oy w) :
 Calls Tryz.prog 87 #[.pointer (some ⟨t.N, 1, none⟩), .slice (some ⟨gy, oy, none⟩) (wn t.c (t.m + 1)) cy] w fun e w' =>
  e = .returned (.slice (some ⟨w.heap.size, 0, none⟩) (wn t.c (t.m + 1)) (wn t.c (t.m + 1))) ∧ w'.heap[w.heap.size]? = some (.cells (u32s (ER t.c par x y t.m 0)) 29 (0, 0)) ∧ Below w.heap.size w w' := by
 have m3 := ok.m3
 obtain ⟨C, hB, bk, _⟩ := h.nb
 obtain ⟨l1, s1, s2, s3⟩ := h.su t.m (Nat.le_refl _)
 have e1 := s3 (by omega)
 subst e1
 have a4 := wn_le ok.wb (t.m + 1) (by omega)
 exact lerrors_any t.N 1 (t.gs t.m) gy oy cy (wn t.c (t.m + 1)) (wn t.c (t.m + 1)) t.c.loss (SM t.c par x t.m) y w (lt_of_heap hB) (lt_of_heap s1) hy.yl ((cell_of_block hB _).trans bk.c2) ((cell_of_block hB _).trans bk.c5) ((cell_of_block hB _).trans bk.c6) (fun i hi => by rw [cell_of_block s1, u32s_at _ i (by omega)]) hy.yc (SM_pats t.c pp x t.m) hy.py (SM_len _ _ _ _) (ok.one _ (Nat.le_refl _)) a4 (Nat.le_refl _) (by omega) hy.oy
/-- the last layer's slopes are put in their places -/
theorem sl_last {t : Nt} {par x y : List Int} {g : Gv} {gp cp G ge cl ce : Nat} {w : World} (ok : t.ok) (h : NetS t par x g (t.m + 1) t.m w) (i : Inp t par x g gp cp w)
 (hG : w.heap[G]? = some (.cells (u32s (List.replicate (sn t.c (t.m + 1)) 0)) 29 (0, 0))) (hE : w.heap[ge]? = some (.cells (u32s (ER t.c par x y t.m 0)) 29 (0, 0))) (nE : ge ≠ G) (nO : ¬ t.O G) (np : gp ≠ G) (nx : g.gx ≠ G) :
 Calls Tryz.prog 88 #[.pointer (some ⟨t.N, 1, none⟩), .slice (some ⟨G, 0, none⟩) (sn t.c (t.m + 1)) cl, .slice (some ⟨ge, 0, none⟩) (wn t.c (t.m + 1)) ce] w fun e w' =>
  e = .returned (.tuple #[]) ∧ SlS t par x y g gp cp G ge 0 w' ∧ But (fun j => j = G) w w' := by
 have m3 := ok.m3
 obtain ⟨C, hB, bk, b3⟩ := h.nb
 have e0 : (List.replicate (sn t.c (t.m + 1)) (0 : Int)).length = sn t.c (t.m + 1) := List.length_replicate
 have el := ER_len t.c par x y t.m 0 (by omega)
 have r := sn_room ok.wb t.m t.m (Nat.le_refl _) m3
 have s60 := sn_le ok.wb (t.m + 1) (by omega)
 obtain ⟨g1, g2, g3, g4, g5, g6⟩ := given_at ok h i (Nat.le_refl _)
 have gb : g.b t t.m ≠ G := by
  rcases Nat.eq_zero_or_pos t.m with z | z
  · rw [z]; exact nx
  · intro e
    rw [show t.m = (t.m - 1) + 1 by omega] at e
    exact nO (Or.inr (Or.inr (Or.inr ⟨t.m - 1, by omega, e.symm⟩)))
 have X := lslope_any t.N 1 G ge (g.b t t.m) (g.o t.m) cl ce (g.c t t.m) (wn t.c (t.m + 1)) (sn t.c t.m) (wn t.c t.m) C t.tN (List.replicate (sn t.c (t.m + 1)) 0) (ER t.c par x y t.m 0) (AN t.c par x t.m) w hB bk.c1 bk.c3 (b3 (by omega)) hG (lt_of_heap hE) (fun i hi => by rw [cell_of_block hE, u32s_at _ i (by rw [el]; exact hi)]) g1 g2 (fun e => nO (Or.inl e.symm)) nE gb (ER_pats t.c i.pp x y t.m 0) (AN_pats t.c i.pp i.px t.m) (wn_le ok.wb _ (by omega)) (wn_le ok.wb _ (by omega)) (by have := sn_le ok.wb t.m (by omega); omega) (by rw [e0]; exact r) (by rw [e0]; omega) g6
 rw [e0] at X
 refine X.mono ?_
 rintro e w' ⟨rfl, h1, h2⟩
 refine ⟨rfl, ⟨h.but h2 (fun k hO e => nO (e ▸ hO)), ?_, h1, (h2.block _ (lt_of_heap hE) nE).trans hE, nE, nO, np, nx⟩, h2⟩
 exact ⟨Nat.lt_of_lt_of_le i.pl h2.size, i.pO, fun j hj => (h2.cell i.pl np j).trans (i.pc j hj), i.pp, i.plen, Nat.lt_of_lt_of_le i.xl h2.size, i.xO, fun j hj => (h2.cell i.xl nx _).trans (i.xc j hj), i.px, i.ox⟩
end Go.Proofs.YtoihkljlekknkaaGreat
/-
  The slopes of one sample, of the program. Conditions: as for the net in memory.
-/
namespace Go.Proofs.YtoihkljlekknkaaGreat
open Go.RowKit
open Go.Joins (cell_of_block unfrozen_of_block)
set_option linter.unusedVariables false
set_option linter.unusedSimpArgs false
set_option maxHeartbeats 8000000 in
set_option maxRecDepth 100000 in
theorem pslopes_any (t : Nt) (par x y : List Int) (g : Gv) (gp cp gy oy cy : Nat) (w : World) (ok : t.ok) (h : NetS t par x g 0 0 w) (i : Inp t par x g gp cp w) (hy : InY t y gy oy w) :
 Calls Tryz.prog 55 #[.pointer (some ⟨t.N, 0, none⟩), .slice (some ⟨gp, 0, none⟩) par.length cp, g.v t 0, .slice (some ⟨gy, oy, none⟩) (wn t.c (t.m + 1)) cy] w fun e w' =>
  ∃ G, e = .returned (.slice (some ⟨G, 0, none⟩) (sn t.c (t.m + 1)) (sn t.c (t.m + 1))) ∧ w.heap.size ≤ G ∧ w'.heap[G]? = some (.cells (u32s (SLOPES t.c par x y t.m)) 29 (0, 0)) ∧ NetS t par x g (t.m + 1) t.m w' ∧ But t.O w w' := by
 obtain ⟨j0, ji, jz0, jz1, jz2⟩ := info_three Tryz.infoU
 have FW : Hid (Calls Tryz.prog 86 #[.pointer (some ⟨t.N, 0, none⟩), .slice (some ⟨gp, 0, none⟩) par.length cp, g.v t 0] w fun e w' => e = .returned (.tuple #[]) ∧ NetS t par x g (t.m + 1) t.m w' ∧ But t.O w w') := forward_any t par x g gp cp w ok h i
 have PA : Hid (∀ V, NetS t par x g (t.m + 1) t.m V → Calls Tryz.prog 26 #[.pointer (some ⟨t.N, 0, none⟩)] V fun e w' => e = .returned (.int .i64 (sn t.c (t.m + 1) : Int)) ∧ Below V.heap.size V w') := fun V hV => parameters_any ok hV
 have LE : Hid (∀ V, NetS t par x g (t.m + 1) t.m V → InY t y gy oy V → Calls Tryz.prog 87 #[.pointer (some ⟨t.N, 1, none⟩), .slice (some ⟨gy, oy, none⟩) (wn t.c (t.m + 1)) cy] V fun e w' => ∃ ge, e = .returned (.slice (some ⟨ge, 0, none⟩) (wn t.c (t.m + 1)) (wn t.c (t.m + 1))) ∧ w'.heap[ge]? = some (.cells (u32s (ER t.c par x y t.m 0)) 29 (0, 0)) ∧ V.heap.size ≤ ge ∧ Below V.heap.size V w') := fun V hV hy => (sl_first (gp := gp) (cp := cp) ok hV i.pp hy).mono (by rintro e w' ⟨rfl, h1, h2⟩; exact ⟨_, rfl, h1, Nat.le_refl _, h2⟩)
 have LS : Hid (∀ G ge V, NetS t par x g (t.m + 1) t.m V → Inp t par x g gp cp V → V.heap[G]? = some (.cells (u32s (List.replicate (sn t.c (t.m + 1)) 0)) 29 (0, 0)) → V.heap[ge]? = some (.cells (u32s (ER t.c par x y t.m 0)) 29 (0, 0)) → ge ≠ G → ¬ t.O G → gp ≠ G → g.gx ≠ G → Calls Tryz.prog 88 #[.pointer (some ⟨t.N, 1, none⟩), .slice (some ⟨G, 0, none⟩) (sn t.c (t.m + 1)) (sn t.c (t.m + 1)), .slice (some ⟨ge, 0, none⟩) (wn t.c (t.m + 1)) (wn t.c (t.m + 1))] V fun e w' => e = .returned (.tuple #[]) ∧ SlS t par x y g gp cp G ge 0 w' ∧ But (fun j => j = G) V w') := fun G ge V a1 a2 a3 a4 a5 a6 a7 a8 => sl_last ok a1 a2 a3 a4 a5 a6 a7 a8
 have nO : Hid (∀ V, NetS t par x g (t.m + 1) t.m V → ¬ t.O V.heap.size) := fun V hV hO => absurd (hV.low _ hO) (by omega)
 have s60 : sn t.c (t.m + 1) ≤ 60 := sn_le ok.wb (t.m + 1) (by have := ok.m3; omega)
 have OK : Hid _ := ok
 have H0 : Hid _ := h
 have I0 : Hid _ := i
 have Y0 : Hid _ := hy
 obtain ⟨N, hN⟩ : ∃ N, N = t.N := ⟨_, rfl⟩
 obtain ⟨m, hm⟩ : ∃ m, m = t.m := ⟨_, rfl⟩
 obtain ⟨A, hA⟩ : ∃ A, A = t.A := ⟨_, rfl⟩
 obtain ⟨cB, hcB⟩ : ∃ A, A = t.cB := ⟨_, rfl⟩
 obtain ⟨np, hnp⟩ : ∃ A, A = par.length := ⟨_, rfl⟩
 obtain ⟨n, hn⟩ : ∃ A, A = sn t.c (t.m + 1) := ⟨_, rfl⟩
 rw [← hN, ← hnp] at FW
 rw [← hN, ← hn] at PA
 rw [← hN] at LE
 rw [← hN, ← hn] at LS
 rw [← hn] at s60
 rw [← hN, ← hnp, ← hn]
 have HN : Hid _ := hN
 have HM : Hid _ := hm
 have HA : Hid _ := hA
 have HC : Hid _ := hcB
 have HP : Hid _ := hnp
 have HL : Hid _ := hn
 have m3 : m < 3 := by rw [hm]; exact ok.m3
 clear ok h i hy hN hm hA hcB hnp hn
 go_enter Tryz.func55, Tryz.ntmps55
 go_wp2_with (first
  | (go_at_call 86; refine FW.out.mono ?_; rintro e w1 ⟨rfl, h1, b1⟩
     have S1 : Hid _ := h1
     have U1 : Hid _ := b1
     clear h1 b1)
  | (go_at_call 26; refine (PA.out _ S1.out).mono ?_; rintro e w2 ⟨rfl, b2⟩
     have S2 : Hid (NetS t par x g (t.m + 1) t.m w2) := S1.out.below b2
     have U2 : Hid (But t.O w w2) := U1.out.trans (But.below b2)
     obtain ⟨G, hG⟩ : ∃ G, G = w2.heap.size := ⟨_, rfl⟩
     have HG : Hid _ := hG
     clear b2 hG S1 U1)
  | (at_make; refine wpList_make_full _ rfl _ _ 43 rfl w2.heap.size 29 j0 _ 1 Tryz.under43 ji jz0 jz1 _ _ _ _ n rfl rfl rfl rfl (by rw [jz2]; omega) (by unfold maxLen; omega) (Nat.le_refl _) ?_
     intro w3 hown hgr
     rw [Nat.mul_one] at hown
     have B3 : Hid (Below w2.heap.size w2 w3) := (Below.refl _ _).grown hgr (Nat.le_refl _) (by simp)
     have H3 : Hid (w3.heap[w2.heap.size]? = some (.cells (u32s (List.replicate n 0)) 29 (0, 0))) := made_u32 hown
     have S3 : Hid (NetS t par x g (t.m + 1) t.m w3) := S2.out.below B3.out
     have Y3 : Hid (InY t y gy oy w3) := (Y0.out.but U2.out).below B3.out
     have I3 : Hid (Inp t par x g gp cp w3) := (I0.out.but U2.out).below B3.out
     rw [← HG.out] at B3 H3 ⊢
     clear hown hgr)
  | (go_at_call 87; refine (LE.out _ S3.out Y3.out).mono ?_; rintro e w4 ⟨ge, rfl, h4, g4, b4⟩
     have E4 : Hid _ := h4
     have S4 : Hid (NetS t par x g (t.m + 1) t.m w4) := S3.out.below b4
     have I4 : Hid (Inp t par x g gp cp w4) := I3.out.below b4
     have H4 : Hid (w4.heap[G]? = some (.cells (u32s (List.replicate n 0)) 29 (0, 0))) := (b4.block _ (lt_of_heap H3.out)).trans H3.out
     have B4 : Hid (Below G w2 w4) := B3.out.trans (b4.mono (Nat.le_of_lt (lt_of_heap H3.out)))
     have N4 : Hid (ge ≠ G) := by have := lt_of_heap H3.out; show ¬ _; omega
     have X4 : Hid (¬ t.O G ∧ gp ≠ G ∧ g.gx ≠ G) := by
      have e := HG.out
      have a1 := Nat.lt_of_lt_of_le I0.out.pl U2.out.size
      have a2 := Nat.lt_of_lt_of_le I0.out.xl U2.out.size
      refine ⟨?_, ?_, ?_⟩
      · rw [e]; exact nO.out _ S2.out
      · omega
      · omega
     clear h4 g4 b4 S3 I3 Y3 B3 H3)
  | (go_at_call 88; refine (LS.out G ge _ S4.out I4.out H4.out E4.out N4.out X4.out.1 X4.out.2.1 X4.out.2.2).mono ?_; rintro e w5 ⟨rfl, h5, b5⟩
     have S5 : Hid _ := h5
     have B5 : Hid (Below G w2 w5) := ⟨b5.os.trans B4.out.os, b5.tape.trans B4.out.tape, b5.output.trans B4.out.output, Nat.le_trans B4.out.size b5.size, fun k hk => (b5.block k (Nat.lt_of_lt_of_le hk (Nat.le_of_lt (lt_of_heap H4.out))) (by omega)).trans (B4.out.block k hk)⟩
     have n5 : w5.cell? ⟨N, 0, none⟩ = some (.slice A m cB) := by rw [HN.out, HM.out, HA.out, HC.out]; exact h5.net.c0
     clear h5 b5))
 clear S4 I4 E4 B4 N4 H4 FW PA LE LS ji jz0 jz1 jz2 nO n5
 go_loopw [10, 11, 12] (fun ev bv kv wr => ∃ d k1 : Nat, k1 + d = m ∧ kv = .int .i64 ((k1 : Int) - 1) ∧ bv = .pointer (some ⟨t.bB k1, t.bO k1, none⟩) ∧ ∃ ge, ev = .slice (some ⟨ge, 0, none⟩) (wn t.c (k1 + 1)) (wn t.c (k1 + 1)) ∧ Hid (SlS t par x y g gp cp G ge d wr) ∧ Hid (Below G w2 wr)) (fun _ _ kv _ => (intOf kv + 1).toNat)
 case atStart => exact ⟨0, m, by omega, by go_num, by unfold Nt.bB Nt.bO; rw [HM.out, if_pos rfl, if_pos rfl, ← HN.out], ge, by rw [HM.out], S5.out, B5.out⟩
 case round =>
  clear S5 B5
  obtain ⟨d, k1, hkd, rfl, rfl, ge1, rfl, HS, HB⟩ := hrel
  have n1 : wr.cell? ⟨N, 0, none⟩ = some (.slice A m cB) := by rw [HN.out, HM.out, HA.out, HC.out]; exact HS.out.net.c0
  rcases Nat.eq_zero_or_pos k1 with hz | hz
  · subst hz
    have ed : d = t.m := by rw [← HM.out]; omega
    have R : Hid (wr.heap[G]? = some (.cells (u32s (SLOPES t.c par x y t.m)) 29 (0, 0))) := by
     have := HS.out.gG; rw [ed] at this; exact this
    have F : Hid (But t.O w wr) := U2.out.trans ⟨HB.out.os, HB.out.tape, HB.out.output, HB.out.size, fun k hk _ => HB.out.block k (by rw [HG.out]; exact hk)⟩
    have GG : Hid (w.heap.size ≤ G) := by show _ ≤ _; rw [HG.out]; exact U2.out.size
    clear n1 ed
    go_wp2
    go_ret
    exact ⟨G, rfl, GG.out, R.out, HS.out.net, F.out⟩
  · obtain ⟨k, rfl⟩ : ∃ k, k1 = k + 1 := ⟨k1 - 1, by omega⟩
    have hk' : k + 1 + d = t.m := by rw [← HM.out]; exact hkd
    have ea : A = some ⟨t.Bb, 0, none⟩ := by rw [HA.out]; exact OK.out.A (by omega)
    have BL : Hid (Calls Tryz.prog 90 #[.pointer (some ⟨t.bB (k + 1), t.bO (k + 1), none⟩), .slice (some ⟨gp, 0, none⟩) np cp, .slice (some ⟨ge1, 0, none⟩) (wn t.c (k + 1 + 1)) (wn t.c (k + 1 + 1))] wr fun e w' => ∃ gb, e = .returned (.slice (some ⟨gb, 0, none⟩) (wn t.c (k + 1)) (wn t.c (k + 1))) ∧ w'.heap[gb]? = some (.cells (u32s (BLM par (ER t.c par x y t.m d) (sn t.c (k + 1)) (wn t.c (k + 1)) (wn t.c (k + 2)))) 29 (0, 0)) ∧ Below wr.heap.size wr w') := by
     show Calls _ _ _ _ _; rw [HP.out]
     exact (sl_blames OK.out HS.out hk').mono (by rintro e w' ⟨rfl, h1, h2⟩; exact ⟨_, rfl, h1, h2⟩)
    have ERc : Hid (∀ gb V, SlS t par x y g gp cp G ge1 d V → V.heap[gb]? = some (.cells (u32s (BLM par (ER t.c par x y t.m d) (sn t.c (k + 1)) (wn t.c (k + 1)) (wn t.c (k + 2)))) 29 (0, 0)) → Calls Tryz.prog 89 #[.pointer (some ⟨t.Bb, k * 7, none⟩), .slice (some ⟨gb, 0, none⟩) (wn t.c (k + 1)) (wn t.c (k + 1))] V fun e w' => ∃ ge2, e = .returned (.slice (some ⟨ge2, 0, none⟩) (wn t.c (k + 1)) (wn t.c (k + 1))) ∧ w'.heap[ge2]? = some (.cells (u32s (ER t.c par x y t.m (d + 1))) 29 (0, 0)) ∧ V.heap.size ≤ ge2 ∧ Below V.heap.size V w') := fun gb V hS hb => (sl_errors OK.out hS hk' hb).mono (by rintro e w' ⟨rfl, h1, h2⟩; exact ⟨_, rfl, h1, Nat.le_refl _, h2⟩)
    have SLc : Hid (∀ ge2 V, SlS t par x y g gp cp G ge1 d V → V.heap[ge2]? = some (.cells (u32s (ER t.c par x y t.m (d + 1))) 29 (0, 0)) → ge2 ≠ G → Calls Tryz.prog 88 #[.pointer (some ⟨t.Bb, k * 7, none⟩), .slice (some ⟨G, 0, none⟩) n n, .slice (some ⟨ge2, 0, none⟩) (wn t.c (k + 1)) (wn t.c (k + 1))] V fun e w' => e = .returned (.tuple #[]) ∧ SlS t par x y g gp cp G ge2 (d + 1) w' ∧ But (fun j => j = G) V w') := fun ge2 V hS hE nE => by rw [HL.out]; exact sl_slope OK.out hS hk' hE nE
    have BB : Hid (t.bB k = t.Bb ∧ t.bO k = k * 7) := by unfold Nt.bB Nt.bO; rw [if_neg (by omega), if_neg (by omega)]; exact ⟨rfl, rfl⟩
    obtain ⟨Bb, hBb⟩ : ∃ A, A = t.Bb := ⟨_, rfl⟩
    rw [← hBb] at ERc SLc BB ea
    subst ea
    rw [show ((k + 1 : Nat) : Int) - 1 = (k : Int) by omega]
    have kl : (k : Int) < (m : Int) := by omega
    have k0 : (0 : Int) ≤ (k : Int) := by omega
    have k3 : k < 3 := by omega
    have HKD : Hid _ := hkd
    clear hBb hk' hkd hz
    go_wp2_with (first
     | (go_at_call 90; refine BL.out.mono ?_; rintro e w6 ⟨gb, rfl, h6, b6⟩
        have X6 : Hid _ := h6
        have S6 : Hid (SlS t par x y g gp cp G ge1 d w6) := HS.out.below b6
        have B6 : Hid (Below G w2 w6) := HB.out.trans (b6.mono (Nat.le_of_lt (lt_of_heap HS.out.gG)))
        clear h6 b6)
     | (go_at_call 89; refine (ERc.out gb _ S6.out X6.out).mono ?_; rintro e w7 ⟨ge2, rfl, h7, g7, b7⟩
        have X7 : Hid _ := h7
        have S7 : Hid (SlS t par x y g gp cp G ge1 d w7) := S6.out.below b7
        have B7 : Hid (Below G w2 w7) := B6.out.trans (b7.mono (Nat.le_of_lt (lt_of_heap S6.out.gG)))
        have N7 : Hid (ge2 ≠ G) := by have := lt_of_heap S6.out.gG; show ¬ _; omega
        clear h7 g7 b7)
     | (go_at_call 88; refine (SLc.out ge2 _ S7.out X7.out N7.out).mono ?_; rintro e w8 ⟨rfl, h8, b8⟩
        have S8 : Hid _ := h8
        have B8 : Hid (Below G w2 w8) := ⟨b8.os.trans B7.out.os, b8.tape.trans B7.out.tape, b8.output.trans B7.out.output, Nat.le_trans B7.out.size b8.size, fun k hk => (b8.block k (Nat.lt_of_lt_of_le hk (Nat.le_of_lt (lt_of_heap S7.out.gG))) (by omega)).trans (B7.out.block k hk)⟩
        clear h8 b8))
    go_roundw
    case rel => exact ⟨d + 1, k, by have := HKD.out; omega, by go_num, by rw [BB.out.1, BB.out.2], ge2, rfl, S8.out, B8.out⟩
    case measure => simp [intOf]
end Go.Proofs.YtoihkljlekknkaaGreat
