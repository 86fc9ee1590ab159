/-
  One step, of the program. Conditions: the net, the training and the state lie in memory, apart; the samples' numbers are some that are there.
-/
import Derived.Test.YtoihkljlekknkaaGreatAp18
import Derived.Test.YtoihkljlekknkaaGreatAp20
import Derived.Test.YtoihkljlekknkaaGreatRt1
namespace Go.Proofs.YtoihkljlekknkaaGreat
open Go.RowKit
open Go.Joins (cell_of_block unfrozen_of_block)
set_option linter.unusedVariables false
set_option linter.unusedSimpArgs false
def St.O (s : St) (k : Nat) : Prop := k = s.Ss ∨ k = s.gP ∨ k = s.gV ∨ k = s.gW
theorem StS.but {s : St} {n st : Nat} {P V M : List Int} {w w' : World} {Q : Nat → Prop} (h : StS s n st P V M w) (b : But Q w w') (hQ : ∀ k, s.O k → ¬ Q k) : StS s n st P V M w' := by
 refine ⟨?_, ?_, ?_, ?_, h.pl, h.vl, h.ml⟩
 · obtain ⟨C, h1, h2⟩ := h.sb; exact ⟨C, (b.block _ (lt_of_heap h1) (hQ _ (Or.inl rfl))).trans h1, h2⟩
 · exact (b.block _ (lt_of_heap h.p) (hQ _ (Or.inr (Or.inl rfl)))).trans h.p
 · exact (b.block _ (lt_of_heap h.v) (hQ _ (Or.inr (Or.inr (Or.inl rfl))))).trans h.v
 · exact (b.block _ (lt_of_heap h.m) (hQ _ (Or.inr (Or.inr (Or.inr rfl))))).trans h.m
theorem StS.low {s : St} {n st : Nat} {P V M : List Int} {w : World} (h : StS s n st P V M w) (k : Nat) (hk : s.O k) : k < w.heap.size := by
 rcases hk with rfl | rfl | rfl | rfl
 · obtain ⟨C, h1, h2⟩ := h.sb; exact lt_of_heap h1
 · exact lt_of_heap h.p
 · exact lt_of_heap h.v
 · exact lt_of_heap h.m
/-- a step's slopes -/
def GRD (c : Cf) (m : Nat) (s : ByteArray) (P : List Int) (pk : Nat → Nat) (nb : Nat) : List Int := CLP (SCL (GSUM c m s P pk nb) (DIV 1065353216 (FROMI (nb : Int)))) c.clip
def NP (c : Cf) (st : Nat) (P V M g : List Int) : List Int := if c.rule = 1 then ADP c.beta c.gamma c.small (RATE c (st : Int)) st P V M g else MOP c.beta (RATE c (st : Int)) P V g
def NV (c : Cf) (V g : List Int) : List Int := if c.rule = 1 then ADV c.beta V g else MOV c.beta V g
def NM (c : Cf) (M g : List Int) : List Int := if c.rule = 1 then ADW c.gamma M g else M
theorem SCL_len (l : List Int) (v : Int) : (SCL l v).length = l.length := by simp [SCL]
theorem SCL_pats (l : List Int) (v : Int) : pats (SCL l v) := fun y hy => by
 unfold SCL at hy
 obtain ⟨k, _, rfl⟩ := List.mem_map.1 hy
 exact MUL_bd' _ _
theorem CLP_len (l : List Int) (v : Int) : (CLP l v).length = l.length := by
 unfold CLP; split
 · split
   · exact SCL_len _ _
   · rfl
 · rfl
theorem CLP_pats {l : List Int} (h : pats l) (v : Int) : pats (CLP l v) := by
 unfold CLP; split
 · split
   · exact SCL_pats _ _
   · exact h
 · exact h
theorem GRD_len (c : Cf) (m : Nat) (s : ByteArray) (P : List Int) (pk : Nat → Nat) (nb : Nat) : (GRD c m s P pk nb).length = sn c (m + 1) := by
 unfold GRD; rw [CLP_len, SCL_len, GSUM_len]
theorem GRD_pats (c : Cf) (m : Nat) (s : ByteArray) (P : List Int) (pk : Nat → Nat) (nb : Nat) : pats (GRD c m s P pk nb) := CLP_pats (SCL_pats _ _) _
theorem pats_map (n : Nat) (f : Nat → Int) (h : ∀ k, 0 ≤ f k ∧ f k < 4294967296) : pats ((List.range n).map f) := fun y hy => by
 obtain ⟨k, _, rfl⟩ := List.mem_map.1 hy
 exact h k
theorem NP_len (c : Cf) (st : Nat) (P V M g : List Int) : (NP c st P V M g).length = g.length := by unfold NP; split <;> simp [ADP, MOP]
theorem NV_len (c : Cf) (V g : List Int) : (NV c V g).length = g.length := by unfold NV; split <;> simp [ADV, MOV]
theorem NM_len (c : Cf) (M g : List Int) (h : M.length = g.length) : (NM c M g).length = g.length := by unfold NM; split; simp [ADW]; exact h
theorem NP_pats (c : Cf) (st : Nat) {P : List Int} (hP : pats P) (V M g : List Int) : pats (NP c st P V M g) := by
 unfold NP; split
 · exact pats_map _ _ fun k => SUB_bd _ _ (pats_at hP k).1 (pats_at hP k).2
 · exact pats_map _ _ fun k => MOP1_bd _ _ hP _ _ k
theorem NV_pats (c : Cf) (V : List Int) {g : List Int} (hg : pats g) : pats (NV c V g) := by
 unfold NV; split
 · exact pats_map _ _ fun k => BLD_bd _ _ _
 · exact pats_map _ _ fun k => MOV1_bd _ hg k
theorem NM_pats (c : Cf) {M : List Int} (hM : pats M) (g : List Int) : pats (NM c M g) := by
 unfold NM; split
 · exact pats_map _ _ fun k => BLD_bd _ _ _
 · exact hM
theorem WAV_bd (c : Cf) (step : Int) : 0 ≤ WAV c step ∧ WAV c step < 4294967296 := by
 unfold WAV; split
 · exact MUL_bd _ _
 · exact MUL_bd _ _
theorem RATE_bd (c : Cf) (step : Int) (h : c.ok2) : 0 ≤ RATE c step ∧ RATE c step < 4294967296 := by
 unfold RATE PLN
 split
 · split
   · exact HLV_bd _ _ h.rate.1 h.rate.2
   · split
     · exact WAV_bd c step
     · exact h.rate
 · omega
theorem rng_of {w : World} {g : Nat} {C X : Array Value} {t : TypeId} (h : w.heap[g]? = some (.cells C t (0, 0))) (hX : ∀ i, i < X.size → C[i]? = X[i]?) : w.rangeAt g 0 X.toList := fun j v hv => by
 rw [Array.getElem?_toList] at hv
 have hj : j < X.size := (Array.getElem?_eq_some_iff.1 hv).1
 show w.cell? ⟨g, 0 + j, none⟩ = _
 rw [Nat.zero_add, cell_of_block h, hX j hj, hv]
set_option maxHeartbeats 8000000 in
set_option maxRecDepth 100000 in
theorem step_any (t : Nt) (r : Tr) (s : St) (P V M : List Int) (st gk ck nb : Nat) (pk : Nat → Nat) (w : World) (ok : t.ok) (c2 : t.c.ok2) (sok : s.ok) (hn : NetR t w) (hr : TrS t r w) (hs : StS s (sn t.c (t.m + 1)) st P V M w) (ap : ∀ b, r.O b → ¬ t.O b) (asn : ∀ b, s.O b → ¬ t.O b) (ar : ∀ b, s.O b → ¬ r.O b)
 (pP : pats P) (pV : pats V) (pM : pats M) (kl : gk < w.heap.size) (kO : ¬ t.O gk) (kc : ∀ b, b < nb → w.cell? ⟨gk, b, none⟩ = some (.int .i64 (pk b : Int))) (kn : ∀ b, b < nb → pk b < r.ns) (hb : t.c.batch = (nb : Int)) (nb1 : nb ≤ 1000) (ns1 : r.ns ≤ 1000) (st4 : st ≤ 1000000) :
 Calls Tryz.prog 13 #[.pointer (some ⟨r.T, 0, none⟩), .pointer (some ⟨s.Ss, 0, none⟩), .slice (some ⟨gk, 0, none⟩) nb ck] w fun e w' =>
  e = .returned (.tuple #[]) ∧ NetR t w' ∧ TrS t r w' ∧ StS s (sn t.c (t.m + 1)) (st + 1) (NP t.c st P V M (GRD t.c t.m r.s P pk nb)) (NV t.c V (GRD t.c t.m r.s P pk nb)) (NM t.c M (GRD t.c t.m r.s P pk nb)) w' ∧ But (fun k => t.O k ∨ s.O k) w w' := by
 obtain ⟨n, hnn⟩ : ∃ n, n = sn t.c (t.m + 1) := ⟨_, rfl⟩
 have n60 : n ≤ 60 := by rw [hnn]; exact sn_le ok.wb (t.m + 1) (by have := ok.m3; omega)
 rw [← hnn] at hs ⊢
 obtain ⟨g, hg⟩ : ∃ g, g = GRD t.c t.m r.s P pk nb := ⟨_, rfl⟩
 obtain ⟨g0, hg0⟩ : ∃ g, g = SCL (GSUM t.c t.m r.s P pk nb) (DIV 1065353216 (FROMI (nb : Int))) := ⟨_, rfl⟩
 rw [← hg]
 have hgc : g = CLP g0 t.c.clip := by rw [hg, hg0]; rfl
 have gl : g.length = n := by rw [hg, GRD_len, hnn]
 have gl0 : g0.length = n := by rw [hg0, SCL_len, GSUM_len, hnn]
 have gp : pats g := by rw [hg]; exact GRD_pats _ _ _ _ _ _
 have gp0 : pats g0 := by rw [hg0]; exact SCL_pats _ _
 obtain ⟨rt, hrt⟩ : ∃ x, x = RATE t.c (st : Int) := ⟨_, rfl⟩
 have rb : 0 ≤ rt ∧ rt < 4294967296 := by rw [hrt]; exact RATE_bd t.c _ c2
 have SLc : Hid (Calls Tryz.prog 27 #[.pointer (some ⟨r.T, 0, none⟩), .slice (some ⟨s.gP, 0, none⟩) n n, .slice (some ⟨gk, 0, none⟩) nb ck] w fun e w' => ∃ G, e = .returned (.slice (some ⟨G, 0, none⟩) n n) ∧ w.heap.size ≤ G ∧ w'.heap[G]? = some (.cells (u32s g0) 29 (0, 0)) ∧ NetR t w' ∧ But t.O w w') := by
  have := tslopes_any t r P s.gP n gk ck nb pk w ok hn hr ap hs.p (asn _ (Or.inr (Or.inl rfl))) pP (by rw [hs.pl, hnn]) kl kO kc kn hb nb1 ns1
  rw [hs.pl, ← hg0] at this; exact this
 have CLc : Hid (∀ G X, X.heap[G]? = some (.cells (u32s g0) 29 (0, 0)) → Calls Tryz.prog 28 #[.slice (some ⟨G, 0, none⟩) n n, .int .u32 t.c.clip] X fun e w' => e = .returned (.tuple #[]) ∧ w'.heap[G]? = some (.cells (u32s g) 29 (0, 0)) ∧ But (fun k => k = G) X w') := fun G X hX => by
  have := clip_any G n g0 t.c.clip X hX gp0 c2.clip (by omega)
  rw [gl0, ← hgc] at this; exact this
 have RTc : Hid (∀ X, Calls Tryz.prog 29 #[.agg (pcs t.c), .int .i64 (st : Int)] X fun e w' => e = .returned (.int .u32 rt) ∧ Below X.heap.size X w') := fun X => by rw [hrt]; exact rateAt_any t.c (st : Int) X c2
 have TC : Hid (∀ X, TrS t r X → X.rangeAt r.T 0 (pcs t.c).toList ∧ X.cell? ⟨r.T, 19, none⟩ = some (.int .u32 t.c.clip) ∧ X.cell? ⟨r.T, 7, none⟩ = some (.int .i64 t.c.rule) ∧ r.T < X.heap.size ∧ X.cell? ⟨r.T, 16, none⟩ = some (.int .u32 t.c.beta) ∧ X.cell? ⟨r.T, 17, none⟩ = some (.int .u32 t.c.gamma) ∧ X.cell? ⟨r.T, 18, none⟩ = some (.int .u32 t.c.small)) := fun X hX => by
  obtain ⟨C, h1, h2, _⟩ := hX.tb
  exact ⟨rng_of h1 (fun i hi => h2 i hi), (cell_of_block h1 _).trans (h2 19 (by omega)), (cell_of_block h1 _).trans (h2 7 (by omega)), lt_of_heap h1, (cell_of_block h1 _).trans (h2 16 (by omega)), (cell_of_block h1 _).trans (h2 17 (by omega)), (cell_of_block h1 _).trans (h2 18 (by omega))⟩
 have SC : Hid (∀ X, StS s n st P V M X → X.cell? ⟨s.Ss, 0, none⟩ = some (.int .i64 (st : Int)) ∧ X.cell? ⟨s.Ss, 1, none⟩ = some (.slice (some ⟨s.gP, 0, none⟩) n n)) := fun X hX => by
  obtain ⟨C, h1, h2, h3, _⟩ := hX.sb
  exact ⟨(cell_of_block h1 _).trans h2, (cell_of_block h1 _).trans h3⟩
 have rS : ∀ k, s.O k → r.T ≠ k := fun k hk e => ar k hk (Or.inl e.symm)
 have RU : Hid (∀ G X, TrS t r X → StS s n st P V M X → X.heap[G]? = some (.cells (u32s g) 29 (0, 0)) → (∀ k, s.O k → k ≠ G) → (t.c.rule = 1 → Calls Tryz.prog 30 #[.pointer (some ⟨r.T, 0, none⟩), .pointer (some ⟨s.Ss, 0, none⟩), .slice (some ⟨G, 0, none⟩) n n, .int .u32 rt] X fun e w' => e = .returned (.tuple #[]) ∧ StS s n st (NP t.c st P V M g) (NV t.c V g) (NM t.c M g) w' ∧ But (fun k => k = s.gP ∨ k = s.gV ∨ k = s.gW) X w') ∧ (¬ t.c.rule = 1 → Calls Tryz.prog 31 #[.pointer (some ⟨r.T, 0, none⟩), .pointer (some ⟨s.Ss, 0, none⟩), .slice (some ⟨G, 0, none⟩) n n, .int .u32 rt] X fun e w' => e = .returned (.tuple #[]) ∧ StS s n st (NP t.c st P V M g) (NV t.c V g) (NM t.c M g) w' ∧ But (fun k => k = s.gP ∨ k = s.gV ∨ k = s.gW) X w')) := fun G X hX hS hG hne => by
  obtain ⟨_, _, _, tl, t16, t17, t18⟩ := TC.out X hX
  have nG : ∀ k, s.O k → G ≠ k := fun k hk e => hne k hk e.symm
  have oP : s.O s.gP := Or.inr (Or.inl rfl)
  have oV : s.O s.gV := Or.inr (Or.inr (Or.inl rfl))
  have oW : s.O s.gW := Or.inr (Or.inr (Or.inr rfl))
  obtain ⟨C, h1, h2⟩ := hS.sb
  refine ⟨fun hrule => (adam_any r.T G n n st s t.c.beta t.c.gamma t.c.small rt P V M g X sok hS tl t16 t17 t18 hG gl (rS _ oP) (rS _ oV) (rS _ oW) (nG _ oP) (nG _ oV) (nG _ oW) pP pV pM gp c2.beta c2.gamma c2.small rb (by omega) st4).mono ?_, fun hrule => (momentum_any r.T G n n st s t.c.beta rt P V M g X sok hS tl t16 hG gl (rS _ oP) (rS _ oV) (nG _ oP) (nG _ oV) pP pV gp c2.beta rb (by omega)).mono ?_⟩
  · rintro e w' ⟨rfl, q1, q2, q3, q4⟩
    refine ⟨rfl, ⟨⟨C, (q4.block _ (lt_of_heap h1) (by rintro (e | e | e); exact sok.SP e; exact sok.SV e; exact sok.SW e)).trans h1, h2⟩, ?_, ?_, ?_, by rw [NP_len, gl], by rw [NV_len, gl], by rw [NM_len _ _ _ (by rw [hS.ml, gl]), gl]⟩, q4⟩
    · unfold NP; rw [if_pos hrule, ← hrt]; exact q1
    · unfold NV; rw [if_pos hrule]; exact q2
    · unfold NM; rw [if_pos hrule]; exact q3
  · rintro e w' ⟨rfl, q1, q2, q4⟩
    refine ⟨rfl, ⟨⟨C, (q4.block _ (lt_of_heap h1) (by rintro (e | e); exact sok.SP e; exact sok.SV e)).trans h1, h2⟩, ?_, ?_, ?_, by rw [NP_len, gl], by rw [NV_len, gl], by rw [NM_len _ _ _ (by rw [hS.ml, gl]), gl]⟩, q4.mono ?_⟩
    · unfold NP; rw [if_neg hrule, ← hrt]; exact q1
    · unfold NV; rw [if_neg hrule]; exact q2
    · unfold NM; rw [if_neg hrule]; exact (q4.block _ (lt_of_heap hS.m) (by rintro (e | e); exact sok.PW e.symm; exact sok.VW e.symm)).trans hS.m
    · rintro k (e | e); exact Or.inl e; exact Or.inr (Or.inl e)
 have SS : Hid (∀ X, StS s n st (NP t.c st P V M g) (NV t.c V g) (NM t.c M g) X → X.cell? ⟨s.Ss, 0, none⟩ = some (.int .i64 (st : Int)) ∧ X.frozen? ⟨s.Ss, 0, none⟩ = false ∧ StS s n (st + 1) (NP t.c st P V M g) (NV t.c V g) (NM t.c M g) (X.setCell ⟨s.Ss, 0, none⟩ (.int .i64 ((st : Int) + 1)))) := fun X hX => by
  obtain ⟨C, h1, h2, h3, h4, h5⟩ := hX.sb
  have z : 0 < C.size := (Array.getElem?_eq_some_iff.1 h2).1
  refine ⟨(cell_of_block h1 _).trans h2, unfrozen_of_block h1 _, ⟨⟨_, heap_set X s.Ss 0 _ C s.tS (0, 0) h1, ?_, ?_, ?_, ?_⟩, ?_, ?_, ?_, hX.pl, hX.vl, hX.ml⟩⟩
  · rw [Array.getElem?_setIfInBounds_self_of_lt z]; simp
  · rw [Array.getElem?_setIfInBounds_ne (by omega)]; exact h3
  · rw [Array.getElem?_setIfInBounds_ne (by omega)]; exact h4
  · rw [Array.getElem?_setIfInBounds_ne (by omega)]; exact h5
  · rw [heap_set_ne X s.Ss 0 s.gP _ (Ne.symm sok.SP)]; exact hX.p
  · rw [heap_set_ne X s.Ss 0 s.gV _ (Ne.symm sok.SV)]; exact hX.v
  · rw [heap_set_ne X s.Ss 0 s.gW _ (Ne.symm sok.SW)]; exact hX.m
 have FR : Hid (∀ G w1 w2 w3 w4, But t.O w w1 → w.heap.size ≤ G → But (fun k => k = G) w1 w2 → Below w2.heap.size w2 w3 → But (fun k => k = s.gP ∨ k = s.gV ∨ k = s.gW) w3 w4 → ∀ v, But (fun k => t.O k ∨ s.O k) w (w4.setCell ⟨s.Ss, 0, none⟩ v)) := fun G w1 w2 w3 w4 b1 hG b2 b3 b4 v =>
  (((((b1.new b2 hG).mono (fun j hj => (Or.inl hj : t.O j ∨ s.O j))).trans (But.below b3))).trans (b4.mono (fun j hj => Or.inr (Or.inr hj)))).trans (But.set w4 s.Ss 0 v (Or.inr (Or.inl rfl)))
 have NT : Hid (∀ X Y, NetR t X → But (fun k => k = s.gP ∨ k = s.gV ∨ k = s.gW) X Y → NetR t Y) := fun X Y h b => NetS.but h b (fun k hO e => asn k (Or.inr e) hO)
 have NS' : Hid (∀ X v, NetR t X → NetR t (X.setCell ⟨s.Ss, 0, none⟩ v)) := fun X v h => NetS.but h (But.set (O := fun k => k = s.Ss) X s.Ss 0 v rfl) (fun k hO e => asn k (Or.inl e) hO)
 have TT : Hid (∀ X Y, TrS t r X → But (fun k => k = s.gP ∨ k = s.gV ∨ k = s.gW) X Y → TrS t r Y) := fun X Y h b => h.but b (fun k hO e => ar k (Or.inr e) hO)
 have TS : Hid (∀ X v, TrS t r X → TrS t r (X.setCell ⟨s.Ss, 0, none⟩ v)) := fun X v h => h.but (But.set (O := fun k => k = s.Ss) X s.Ss 0 v rfl) (fun k hO e => ar k (Or.inl e) hO)
 have T1 : Hid (∀ X, But t.O w X → TrS t r X ∧ StS s n st P V M X) := fun X b => ⟨hr.but b (fun k hk => ap k hk), hs.but b (fun k hk => asn k hk)⟩
 have T2 : Hid (∀ G X Y, w.heap.size ≤ G → NetR t X → TrS t r X → StS s n st P V M X → But (fun k => k = G) X Y → (∀ k, t.O k → k ≠ G) → NetR t Y ∧ TrS t r Y ∧ StS s n st P V M Y) := fun G X Y hG h1 h2 h3 b hO => ⟨NetS.but h1 b hO, h2.but b (fun k hk e => by
  have lo : k < w.heap.size := by
   rcases hk with rfl | rfl | ⟨j, hj, rfl⟩
   · obtain ⟨C, q, _⟩ := hr.tb; exact lt_of_heap q
   · obtain ⟨C, q, _⟩ := hr.sb; exact lt_of_heap q
   · exact hr.wl j hj
  omega), h3.but b (fun k hk e => by have := hs.low k hk; omega)⟩
 have LO : Hid (∀ G, w.heap.size ≤ G → (∀ k, t.O k → k ≠ G) ∧ (∀ k, s.O k → k ≠ G)) := fun G hG => ⟨fun k hk e => by have := NetS.low hn k hk; omega, fun k hk e => by have := hs.low k hk; omega⟩
 have T3 : Hid (∀ X Y, NetR t X → TrS t r X → StS s n st P V M X → Below X.heap.size X Y → NetR t Y ∧ TrS t r Y ∧ StS s n st P V M Y) := fun X Y h1 h2 h3 b => ⟨NetS.below h1 b, h2.below b, h3.but (Q := fun _ => False) (But.below b) (fun _ _ e => e)⟩
 have s1w := (SC.out w hs).2
 have IC : (Tryz.prog.info? 31).map (·.size) = some (pcs t.c).toList.length := by show _ = some 20; kernel_rfl
 obtain ⟨X, hX⟩ : ∃ X, X = pcs t.c := ⟨_, rfl⟩
 obtain ⟨T, hT⟩ : ∃ X, X = r.T := ⟨_, rfl⟩
 obtain ⟨Ss, hSs⟩ : ∃ X, X = s.Ss := ⟨_, rfl⟩
 obtain ⟨gP, hgP⟩ : ∃ X, X = s.gP := ⟨_, rfl⟩
 obtain ⟨cl, hcl⟩ : ∃ X, X = t.c.clip := ⟨_, rfl⟩
 obtain ⟨rl, hrl⟩ : ∃ X, X = t.c.rule := ⟨_, rfl⟩
 obtain ⟨sI, hsI⟩ : ∃ x : Int, x = (st : Int) := ⟨_, rfl⟩
 have HI : Hid ((Tryz.prog.info? 31).map (·.size) = some X.toList.length) := by rw [hX]; exact IC
 rw [← hT, ← hgP] at SLc
 rw [← hcl] at CLc
 rw [← hX, ← hsI] at RTc
 simp only [← hX, ← hT, ← hcl, ← hrl] at TC
 simp only [← hSs, ← hgP, ← hsI] at SC
 simp only [← hT, ← hSs, ← hrl] at RU
 simp only [← hSs, ← hsI] at SS
 simp only [← hSs] at FR NS' TS
 rw [← hSs, ← hgP] at s1w
 have wr1 : IntKind.i64.wrap (sI + 1) = sI + 1 := by rw [hsI, IntKind.wrap_i64]; omega
 have HTN : Hid _ := hn
 rw [← hT, ← hSs]
 clear ok c2 sok hn hr hs ap asn ar pP pV pM kl kO kc kn hb hnn hg hg0 hgc gl gl0 gp gp0 hrt rb rS IC hX hT hSs hgP hcl hsI
 by_cases hrule : rl = 1
 · have hr1 : (rl == 1) = true := by simpa using hrule
   have HR : Hid _ := hrule
   clear hrule
   go_enter Tryz.func13, Tryz.ntmps13
   go_upto_region 2 with (first
    | (go_at_call 27; refine SLc.out.mono ?_; rintro e w1 ⟨G, rfl, h1, h2, h3, h4⟩
       have GG : Hid _ := h1
       have L1 : Hid _ := h2
       have N1 : Hid _ := h3
       have B1 : Hid _ := h4
       have RS1 : Hid _ := T1.out _ h4
       have c19 : w1.cell? ⟨T, 19, none⟩ = some (.int .u32 cl) := (TC.out _ RS1.out.1).2.1
       clear h1 h2 h3 h4)
    | (go_at_call 28; refine (CLc.out G _ L1.out).mono ?_; rintro e w2 ⟨rfl, h2, b2⟩
       have L2 : Hid _ := h2
       have B2 : Hid _ := b2
       have Q2 : Hid _ := T2.out G _ _ GG.out N1.out RS1.out.1 RS1.out.2 b2 (LO.out G GG.out).1
       have N2 : Hid (NetR t w2) := Q2.out.1
       have R2 : Hid (TrS t r w2) := Q2.out.2.1
       have S2 : Hid (StS s n st P V M w2) := Q2.out.2.2
       have s2 : w2.rangeAt T 0 X.toList ∧ w2.cell? ⟨Ss, 0, none⟩ = some (.int .i64 sI) := ⟨(TC.out _ R2.out).1, (SC.out _ S2.out).1⟩
       clear h2 b2))
   clear c19 s1w
   refine wp_region_held_drew (S := fun w' => w'.rangeAt T 0 X.toList ∧ w'.cell? ⟨Ss, 0, none⟩ = some (.int .i64 sI)) (by kernel_rfl) s2 (fun hS => ?_)
   refine wpAnyH_take (i := 0) (oi := ⟨some 22, .move (.tmp 0), 39, "training.go:73", #[], none⟩) (v := ?_) rfl (by kernel_rfl) (by kernel_rfl) (by kernel_rfl) (fun _ _ _ h => h) (Or.inl ⟨by kernel_rfl, ?_⟩) hS ?_
   rotate_left
   · intro w hSw; (try dsimp only at hSw); go_simp; (try with_reducible rfl)
   try go_frame
   refine wpAnyH_take (i := 1) (oi := ⟨some 23, .nilCheck (.tmp 22), 0, "training.go:73", #[⟨0, .data⟩], none⟩) (v := ?_) rfl (by kernel_rfl) (by kernel_rfl) (by kernel_rfl) (fun _ _ _ h => h) (Or.inl ⟨by kernel_rfl, ?_⟩) hS ?_
   rotate_left
   · intro w hSw; (try dsimp only at hSw); go_simp; (try with_reducible rfl)
   try go_frame
   refine wpAnyH_take (i := 2) (oi := ⟨some 24, .fieldAddr 61 (.tmp 23) 0, 0, "training.go:73", #[⟨1, .data⟩], none⟩) (v := ?_) rfl (by kernel_rfl) (by kernel_rfl) (by kernel_rfl) (fun _ _ _ h => h) (Or.inl ⟨by kernel_rfl, ?_⟩) hS ?_
   rotate_left
   · intro w hSw; (try dsimp only at hSw); go_simp; (try with_reducible rfl)
   try go_frame
   refine wpAnyH_take (i := 3) (oi := ⟨some 25, .load 31 (.tmp 24), 31, "training.go:73", #[⟨2, .data⟩], none⟩) (v := .agg X.toList.toArray) rfl (by kernel_rfl) (by kernel_rfl) (by kernel_rfl) (fun _ _ _ h => h) (yieldsIf_load_mid (by rfl) 31 _ rfl T 0 rfl X.toList _ (fun w h => h.1) Tryz.underlying31 rfl HI.out) hS ?_
   rw [Array.toArray_toList]
   try go_frame
   refine wpAnyH_take (i := 4) (oi := ⟨some 26, .move (.tmp 1), 41, "training.go:73", #[], none⟩) (v := ?_) rfl (by kernel_rfl) (by kernel_rfl) (by kernel_rfl) (fun _ _ _ h => h) (Or.inl ⟨by kernel_rfl, ?_⟩) hS ?_
   rotate_left
   · intro w hSw; (try dsimp only at hSw); go_simp; (try with_reducible rfl)
   try go_frame
   refine wpAnyH_take (i := 5) (oi := ⟨some 27, .nilCheck (.tmp 26), 0, "training.go:73", #[⟨4, .data⟩], none⟩) (v := ?_) rfl (by kernel_rfl) (by kernel_rfl) (by kernel_rfl) (fun _ _ _ h => h) (Or.inl ⟨by kernel_rfl, ?_⟩) hS ?_
   rotate_left
   · intro w hSw; (try dsimp only at hSw); go_simp; (try with_reducible rfl)
   try go_frame
   refine wpAnyH_take (i := 6) (oi := ⟨some 28, .fieldAddr 45 (.tmp 27) 0, 0, "training.go:73", #[⟨5, .data⟩], none⟩) (v := ?_) rfl (by kernel_rfl) (by kernel_rfl) (by kernel_rfl) (fun _ _ _ h => h) (Or.inl ⟨by kernel_rfl, ?_⟩) hS ?_
   rotate_left
   · intro w hSw; (try dsimp only at hSw); go_simp; (try with_reducible rfl)
   try go_frame
   refine wpAnyH_take (i := 7) (oi := ⟨some 29, .load 3 (.tmp 28), 3, "training.go:73", #[⟨6, .data⟩], none⟩) (v := ?_) rfl (by kernel_rfl) (by kernel_rfl) (by kernel_rfl) (fun _ _ _ h => h) (Or.inl ⟨by kernel_rfl, ?_⟩) hS ?_
   rotate_left
   · intro w hSw; (try dsimp only at hSw); go_simp; (try with_reducible rfl)
   try go_frame
   refine wpAnyH_ready (rs := [8]) (by kernel_rfl) (by simp) ?_
   refine AllReadyH.cons (o := ⟨some 30, .call { callee := .value (.func 29), args := #[.tmp 25, .tmp 29], argTypes := #[31, 3] }, 29, "training.go:73", #[⟨3, .data⟩, ⟨7, .data⟩], none⟩) rfl (fun K hK => ?_) AllReadyH.nil
   go_simp
   refine (RTc.out _).mono ?_
   rintro e w4 ⟨rfl, hb4⟩
   have b4 : Below w2.heap.size w2 w4 := ((Below.refl _ _).drew).trans hb4
   have T3' : Hid _ := T3.out _ _ N2.out R2.out S2.out b4
   have B4 : Hid _ := b4
   have L4 : Hid (w4.heap[G]? = some (.cells (u32s g) 29 (0, 0))) := (b4.block _ (lt_of_heap L2.out)).trans L2.out
   have q5 : w4.rangeAt T 0 X.toList ∧ w4.cell? ⟨Ss, 0, none⟩ = some (.int .i64 sI) := ⟨(TC.out _ T3'.out.2.1).1, (SC.out _ T3'.out.2.2).1⟩
   have q7 : w4.cell? ⟨T, 7, none⟩ = some (.int .i64 rl) := (TC.out _ T3'.out.2.1).2.2.1
   clear hb4 b4 hS
   go_wp2_with fail
   refine hK.out _ _ q5 (fun hS => ?_)
   try go_frame
   clear hK K
   refine wpAnyH_take (i := 9) (oi := ⟨some 7, .assign (.tmp 30), 29, "training.go:73", #[⟨8, .data⟩, ⟨8, .chain⟩, ⟨0, .phase⟩, ⟨1, .phase⟩, ⟨2, .phase⟩, ⟨3, .phase⟩, ⟨4, .phase⟩, ⟨5, .phase⟩, ⟨6, .phase⟩, ⟨7, .phase⟩, ⟨8, .phase⟩], none⟩) (v := ?_) rfl (by kernel_rfl) (by kernel_rfl) (by kernel_rfl) (fun _ _ _ h => h) (Or.inl ⟨by kernel_rfl, ?_⟩) hS ?_
   rotate_left
   · intro w hSw; (try dsimp only at hSw); go_simp; (try with_reducible rfl)
   try go_frame
   refine wpAnyH_done (by kernel_rfl) ?_ _
   clear hS s2 q5
   go_wp2_with (first
    | (go_at_call 30; refine ((RU.out G _ T3'.out.2.1 T3'.out.2.2 L4.out (LO.out G GG.out).2).1 HR.out).mono ?_; rintro e w5 ⟨rfl, h5, b5⟩
       have N5 : Hid _ := NT.out _ _ T3'.out.1 b5
       have R5 : Hid _ := TT.out _ _ T3'.out.2.1 b5
       have B5 : Hid _ := b5
       obtain ⟨c5, z5, f5⟩ := SS.out _ h5
       have S5 : Hid _ := f5
       clear h5 b5 f5))
   go_end0
   exact ⟨rfl, NS'.out _ _ N5.out, TS.out _ _ R5.out, S5.out, FR.out G _ _ _ _ B1.out GG.out B2.out B4.out B5.out _⟩
 · have hr1 : (rl == 1) = false := by simpa using hrule
   go_enter Tryz.func13, Tryz.ntmps13
   go_upto_region 2 with (first
    | (go_at_call 27; refine SLc.out.mono ?_; rintro e w1 ⟨G, rfl, h1, h2, h3, h4⟩
       have GG : Hid _ := h1
       have L1 : Hid _ := h2
       have N1 : Hid _ := h3
       have B1 : Hid _ := h4
       have RS1 : Hid _ := T1.out _ h4
       have c19 : w1.cell? ⟨T, 19, none⟩ = some (.int .u32 cl) := (TC.out _ RS1.out.1).2.1
       clear h1 h2 h3 h4)
    | (go_at_call 28; refine (CLc.out G _ L1.out).mono ?_; rintro e w2 ⟨rfl, h2, b2⟩
       have L2 : Hid _ := h2
       have B2 : Hid _ := b2
       have Q2 : Hid _ := T2.out G _ _ GG.out N1.out RS1.out.1 RS1.out.2 b2 (LO.out G GG.out).1
       have N2 : Hid (NetR t w2) := Q2.out.1
       have R2 : Hid (TrS t r w2) := Q2.out.2.1
       have S2 : Hid (StS s n st P V M w2) := Q2.out.2.2
       have s2 : w2.rangeAt T 0 X.toList ∧ w2.cell? ⟨Ss, 0, none⟩ = some (.int .i64 sI) := ⟨(TC.out _ R2.out).1, (SC.out _ S2.out).1⟩
       clear h2 b2))
   clear c19 s1w
   refine wp_region_held_drew (S := fun w' => w'.rangeAt T 0 X.toList ∧ w'.cell? ⟨Ss, 0, none⟩ = some (.int .i64 sI)) (by kernel_rfl) s2 (fun hS => ?_)
   refine wpAnyH_take (i := 0) (oi := ⟨some 22, .move (.tmp 0), 39, "training.go:73", #[], none⟩) (v := ?_) rfl (by kernel_rfl) (by kernel_rfl) (by kernel_rfl) (fun _ _ _ h => h) (Or.inl ⟨by kernel_rfl, ?_⟩) hS ?_
   rotate_left
   · intro w hSw; (try dsimp only at hSw); go_simp; (try with_reducible rfl)
   try go_frame
   refine wpAnyH_take (i := 1) (oi := ⟨some 23, .nilCheck (.tmp 22), 0, "training.go:73", #[⟨0, .data⟩], none⟩) (v := ?_) rfl (by kernel_rfl) (by kernel_rfl) (by kernel_rfl) (fun _ _ _ h => h) (Or.inl ⟨by kernel_rfl, ?_⟩) hS ?_
   rotate_left
   · intro w hSw; (try dsimp only at hSw); go_simp; (try with_reducible rfl)
   try go_frame
   refine wpAnyH_take (i := 2) (oi := ⟨some 24, .fieldAddr 61 (.tmp 23) 0, 0, "training.go:73", #[⟨1, .data⟩], none⟩) (v := ?_) rfl (by kernel_rfl) (by kernel_rfl) (by kernel_rfl) (fun _ _ _ h => h) (Or.inl ⟨by kernel_rfl, ?_⟩) hS ?_
   rotate_left
   · intro w hSw; (try dsimp only at hSw); go_simp; (try with_reducible rfl)
   try go_frame
   refine wpAnyH_take (i := 3) (oi := ⟨some 25, .load 31 (.tmp 24), 31, "training.go:73", #[⟨2, .data⟩], none⟩) (v := .agg X.toList.toArray) rfl (by kernel_rfl) (by kernel_rfl) (by kernel_rfl) (fun _ _ _ h => h) (yieldsIf_load_mid (by rfl) 31 _ rfl T 0 rfl X.toList _ (fun w h => h.1) Tryz.underlying31 rfl HI.out) hS ?_
   rw [Array.toArray_toList]
   try go_frame
   refine wpAnyH_take (i := 4) (oi := ⟨some 26, .move (.tmp 1), 41, "training.go:73", #[], none⟩) (v := ?_) rfl (by kernel_rfl) (by kernel_rfl) (by kernel_rfl) (fun _ _ _ h => h) (Or.inl ⟨by kernel_rfl, ?_⟩) hS ?_
   rotate_left
   · intro w hSw; (try dsimp only at hSw); go_simp; (try with_reducible rfl)
   try go_frame
   refine wpAnyH_take (i := 5) (oi := ⟨some 27, .nilCheck (.tmp 26), 0, "training.go:73", #[⟨4, .data⟩], none⟩) (v := ?_) rfl (by kernel_rfl) (by kernel_rfl) (by kernel_rfl) (fun _ _ _ h => h) (Or.inl ⟨by kernel_rfl, ?_⟩) hS ?_
   rotate_left
   · intro w hSw; (try dsimp only at hSw); go_simp; (try with_reducible rfl)
   try go_frame
   refine wpAnyH_take (i := 6) (oi := ⟨some 28, .fieldAddr 45 (.tmp 27) 0, 0, "training.go:73", #[⟨5, .data⟩], none⟩) (v := ?_) rfl (by kernel_rfl) (by kernel_rfl) (by kernel_rfl) (fun _ _ _ h => h) (Or.inl ⟨by kernel_rfl, ?_⟩) hS ?_
   rotate_left
   · intro w hSw; (try dsimp only at hSw); go_simp; (try with_reducible rfl)
   try go_frame
   refine wpAnyH_take (i := 7) (oi := ⟨some 29, .load 3 (.tmp 28), 3, "training.go:73", #[⟨6, .data⟩], none⟩) (v := ?_) rfl (by kernel_rfl) (by kernel_rfl) (by kernel_rfl) (fun _ _ _ h => h) (Or.inl ⟨by kernel_rfl, ?_⟩) hS ?_
   rotate_left
   · intro w hSw; (try dsimp only at hSw); go_simp; (try with_reducible rfl)
   try go_frame
   refine wpAnyH_ready (rs := [8]) (by kernel_rfl) (by simp) ?_
   refine AllReadyH.cons (o := ⟨some 30, .call { callee := .value (.func 29), args := #[.tmp 25, .tmp 29], argTypes := #[31, 3] }, 29, "training.go:73", #[⟨3, .data⟩, ⟨7, .data⟩], none⟩) rfl (fun K hK => ?_) AllReadyH.nil
   go_simp
   refine (RTc.out _).mono ?_
   rintro e w4 ⟨rfl, hb4⟩
   have b4 : Below w2.heap.size w2 w4 := ((Below.refl _ _).drew).trans hb4
   have T3' : Hid _ := T3.out _ _ N2.out R2.out S2.out b4
   have B4 : Hid _ := b4
   have L4 : Hid (w4.heap[G]? = some (.cells (u32s g) 29 (0, 0))) := (b4.block _ (lt_of_heap L2.out)).trans L2.out
   have q5 : w4.rangeAt T 0 X.toList ∧ w4.cell? ⟨Ss, 0, none⟩ = some (.int .i64 sI) := ⟨(TC.out _ T3'.out.2.1).1, (SC.out _ T3'.out.2.2).1⟩
   have q7 : w4.cell? ⟨T, 7, none⟩ = some (.int .i64 rl) := (TC.out _ T3'.out.2.1).2.2.1
   clear hb4 b4 hS
   go_wp2_with fail
   refine hK.out _ _ q5 (fun hS => ?_)
   try go_frame
   clear hK K
   refine wpAnyH_take (i := 9) (oi := ⟨some 7, .assign (.tmp 30), 29, "training.go:73", #[⟨8, .data⟩, ⟨8, .chain⟩, ⟨0, .phase⟩, ⟨1, .phase⟩, ⟨2, .phase⟩, ⟨3, .phase⟩, ⟨4, .phase⟩, ⟨5, .phase⟩, ⟨6, .phase⟩, ⟨7, .phase⟩, ⟨8, .phase⟩], none⟩) (v := ?_) rfl (by kernel_rfl) (by kernel_rfl) (by kernel_rfl) (fun _ _ _ h => h) (Or.inl ⟨by kernel_rfl, ?_⟩) hS ?_
   rotate_left
   · intro w hSw; (try dsimp only at hSw); go_simp; (try with_reducible rfl)
   try go_frame
   refine wpAnyH_done (by kernel_rfl) ?_ _
   clear hS s2 q5
   go_wp2_with (first
    | (go_at_call 31; refine ((RU.out G _ T3'.out.2.1 T3'.out.2.2 L4.out (LO.out G GG.out).2).2 hrule).mono ?_; rintro e w5 ⟨rfl, h5, b5⟩
       have N5 : Hid _ := NT.out _ _ T3'.out.1 b5
       have R5 : Hid _ := TT.out _ _ T3'.out.2.1 b5
       have B5 : Hid _ := b5
       obtain ⟨c5, z5, f5⟩ := SS.out _ h5
       have S5 : Hid _ := f5
       clear h5 b5 f5))
   go_end0
   exact ⟨rfl, NS'.out _ _ N5.out, TS.out _ _ R5.out, S5.out, FR.out G _ _ _ _ B1.out GG.out B2.out B4.out B5.out _⟩
end Go.Proofs.YtoihkljlekknkaaGreat
