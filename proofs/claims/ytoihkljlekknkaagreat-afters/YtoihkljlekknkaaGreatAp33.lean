/-
  The state ahead of all steps, of the program. Conditions: a training lies in memory.
-/
import Derived.Test.YtoihkljlekknkaaGreatAp32
import Derived.Test.YtoihkljlekknkaaGreatAp24
namespace Go.Proofs.YtoihkljlekknkaaGreat
open Go.RowKit
open Go.Joins (cell_of_block unfrozen_of_block)
set_option linter.unusedVariables false
set_option linter.unusedSimpArgs false
set_option maxHeartbeats 4000000 in
set_option maxRecDepth 100000 in
theorem begin_any (t : Nt) (r : Tr) (w : World) (ok : t.ok) (c2 : t.c.ok2) (hn : NetR t w) (hr : TrS t r w) :
 Calls Tryz.prog 12 #[.pointer (some ⟨r.T, 0, none⟩)] w fun e w' => ∃ s : St, s.ok ∧ (∀ k, s.O k → w.heap.size ≤ k) ∧ e = .returned (.pointer (some ⟨s.Ss, 0, none⟩)) ∧ StS s (sn t.c (t.m + 1)) 0 (PARS t.c.seed (sn t.c (t.m + 1))) (List.replicate (sn t.c (t.m + 1)) 0) (List.replicate (sn t.c (t.m + 1)) 0) w' ∧ Below w.heap.size w w' := by
 obtain ⟨n, hnn⟩ : ∃ n, n = sn t.c (t.m + 1) := ⟨_, rfl⟩
 have n60 : n ≤ 60 := by rw [hnn]; exact sn_le ok.wb (t.m + 1) (by have := ok.m3; omega)
 obtain ⟨sd, hsd⟩ : ∃ x, x = t.c.seed := ⟨_, rfl⟩
 have sb : 0 ≤ sd ∧ sd < 4294967296 := by rw [hsd]; exact c2.seed
 obtain ⟨C, h1, h2, h3, h4, _⟩ := hr.tb
 have TC : Hid (∀ X, Below w.heap.size w X → X.cell? ⟨r.T, 14, none⟩ = some (.int .u32 sd) ∧ X.cell? ⟨r.T, 21, none⟩ = some (.pointer (some ⟨t.N, 0, none⟩))) := fun X b => by
  have h := (b.block _ (lt_of_heap h1)).trans h1
  exact ⟨(cell_of_block h _).trans ((h2 14 (by omega)).trans (by rw [hsd]; rfl)), (cell_of_block h _).trans h4⟩
 have PA : Hid (∀ X, Below w.heap.size w X → Calls Tryz.prog 26 #[.pointer (some ⟨t.N, 0, none⟩)] X fun e w' => e = .returned (.int .i64 (n : Int)) ∧ Below X.heap.size X w') := fun X b => by rw [hnn]; exact parameters_any ok (NetS.below hn b)
 have FS : Hid (∀ X, Calls Tryz.prog 25 #[.int .u32 sd, .int .i64 (n : Int)] X fun e w' => ∃ s : St, s.ok ∧ (∀ k, s.O k → X.heap.size ≤ k) ∧ e = .returned (.pointer (some ⟨s.Ss, 0, none⟩)) ∧ StS s n 0 (PARS sd n) (List.replicate n 0) (List.replicate n 0) w' ∧ Below X.heap.size X w') := fun X => firstState_any sd n X sb (by omega)
 rw [← hnn, ← hsd]
 obtain ⟨T, hT⟩ : ∃ x, x = r.T := ⟨_, rfl⟩
 obtain ⟨N, hN⟩ : ∃ x, x = t.N := ⟨_, rfl⟩
 rw [← hT, ← hN] at TC
 rw [← hN] at PA
 rw [← hT]
 have s0 := TC.out w (Below.refl _ _)
 clear ok c2 hn hr h1 h2 h3 h4 hnn hsd hT hN sb
 go_enter Tryz.func12, Tryz.ntmps12
 go_upto_region 1 with fail
 go_region_held3 (fun w' => w'.cell? ⟨T, 14, none⟩ = some (.int .u32 sd) ∧ w'.cell? ⟨T, 21, none⟩ = some (.pointer (some ⟨N, 0, none⟩))) (first | exact s0 | exact TC.out _ B1.out | exact TC.out _ B2.out) (first
  | (go_at_call 26; refine (PA.out _ ((Below.refl _ _).drew)).mono ?_; rintro e w1 ⟨rfl, b1⟩
     have B1 : Hid (Below w.heap.size w w1) := ((Below.refl _ _).drew).trans b1
     clear b1)
  | (go_at_call 25; refine (FS.out _).mono ?_; rintro e w2 ⟨s, ok2, lo2, rfl, st2, b2⟩
     have B2 : Hid (Below w.heap.size w w2) := B1.out.trans (b2.mono B1.out.size)
     have OK2 : Hid _ := ok2
     have LO2 : Hid (∀ k, s.O k → w.heap.size ≤ k) := fun k hk => Nat.le_trans B1.out.size (lo2 k hk)
     have ST2 : Hid _ := st2
     clear ok2 lo2 st2 b2))
 go_wp2
 go_ret
 exact ⟨s, OK2.out, LO2.out, rfl, ST2.out, B2.out⟩
end Go.Proofs.YtoihkljlekknkaaGreat
/-
  The state behind some steps, of the program. Conditions: patterns and numbers are such.
-/
namespace Go.Proofs.YtoihkljlekknkaaGreat
open Go.RowKit
open Go.Joins (cell_of_block unfrozen_of_block)
set_option linter.unusedVariables false
set_option linter.unusedSimpArgs false
/-- parameters and moments -/
structure T3 where
 (P V M : List Int)
/-- one step -/
def STEP (c : Cf) (m : Nat) (s : ByteArray) (ns nb st : Nat) (x : T3) : T3 :=
 ⟨NP c st x.P x.V x.M (GRD c m s x.P (PKN c ns st nb) nb), NV c x.V (GRD c m s x.P (PKN c ns st nb) nb), NM c x.M (GRD c m s x.P (PKN c ns st nb) nb)⟩
/-- so many steps -/
def RUN (c : Cf) (m : Nat) (s : ByteArray) (ns nb : Nat) : Nat → T3
 | 0 => ⟨PARS c.seed (sn c (m + 1)), List.replicate (sn c (m + 1)) 0, List.replicate (sn c (m + 1)) 0⟩
 | i + 1 => STEP c m s ns nb i (RUN c m s ns nb i)
theorem STEP_pats {c : Cf} {m : Nat} {s : ByteArray} {ns nb st : Nat} {x : T3} (h : pats x.P ∧ pats x.V ∧ pats x.M) : pats (STEP c m s ns nb st x).P ∧ pats (STEP c m s ns nb st x).V ∧ pats (STEP c m s ns nb st x).M :=
 ⟨NP_pats _ _ h.1 _ _ _, NV_pats _ _ (GRD_pats _ _ _ _ _ _), NM_pats _ h.2.2 _⟩
theorem RUN_pats (c : Cf) (m : Nat) (s : ByteArray) (ns nb i : Nat) : pats (RUN c m s ns nb i).P ∧ pats (RUN c m s ns nb i).V ∧ pats (RUN c m s ns nb i).M := by
 induction i with
 | zero => exact ⟨PARS_pats _ _, pats_rep _, pats_rep _⟩
 | succ i ih => exact STEP_pats ih
def mOf (c : Cf) : Nat := c.L.toNat - 1
def nsOf (c : Cf) (s : ByteArray) : Nat := ((s.size : Int) / SZ c).toNat
def nbOf (c : Cf) : Nat := c.batch.toNat
def kOf (c : Cf) (steps : Int) : Nat := (min steps c.steps).toNat
/-- what After answers -/
def AFT (c : Cf) (s : ByteArray) (steps : Int) : ByteArray :=
 if CHK c (s.size : Int) = 0 then TEXT (kOf c steps : Int) (RUN c (mOf c) s (nsOf c s) (nbOf c) (kOf c steps)).P (RUN c (mOf c) s (nsOf c s) (nbOf c) (kOf c steps)).V (RUN c (mOf c) s (nsOf c s) (nbOf c) (kOf c steps)).M else ByteArray.empty
theorem ALW_wb {c : Cf} (h : ALW c = true) : WB c := by
 have h' := h
 unfold ALW at h
 simp only [Bool.and_eq_true] at h
 have h2 : WID c = true := h.1.1.1.1.1.1.1.1.1.2
 unfold WID at h2
 simp only [Bool.and_eq_true] at h2
 intro k hk
 obtain ⟨a, b, q⟩ := ALW_wide h'
 by_cases e : (k : Int) ≤ c.L
 · have := q k e; omega
 · have hw : okW c k = true := by
    rcases (show k = 0 ∨ k = 1 ∨ k = 2 ∨ k = 3 by omega) with rfl | rfl | rfl | rfl
    · exact h2.1.1.1
    · exact h2.1.1.2
    · exact h2.1.2
    · exact h2.2
   unfold okW at hw
   rw [if_neg e] at hw
   have : wd c k = 0 := by simpa using hw
   omega
theorem ALW_bs {c : Cf} (h : ALW c = true) : (1 ≤ c.batch ∧ c.batch ≤ 4) ∧ (0 ≤ c.steps ∧ c.steps ≤ 200) := by
 unfold ALW at h
 simp only [Bool.and_eq_true] at h
 exact ⟨inB_iff.1 h.1.1.1.1.2, inB_iff.1 h.1.1.1.2⟩
theorem CHK_ok {c : Cf} {n : Int} (h : CHK c n = 0) : ALW c = true ∧ DATA c n = true := by
 unfold CHK at h
 cases a : ALW c
 · rw [a] at h; simp at h
 · cases d : DATA c n
   · rw [a, d] at h; simp at h
   · exact ⟨rfl, rfl⟩
/-- a configuration with data: its sizes -/
theorem sizes_of {c : Cf} {s : ByteArray} (h : CHK c (s.size : Int) = 0) : c.L = (mOf c : Int) + 1 ∧ mOf c < 3 ∧ WB c ∧ (∀ k, k ≤ mOf c + 1 → 1 ≤ wn c k) ∧ s.size = nsOf c s * (4 * (wn c 0 + wn c (mOf c + 1))) ∧ 1 ≤ nsOf c s ∧ nsOf c s ≤ 16 ∧ c.batch = (nbOf c : Int) ∧ nbOf c ≤ 4 ∧ 1 ≤ nbOf c := by
 obtain ⟨a, d⟩ := CHK_ok h
 obtain ⟨l1, l3, lw⟩ := ALW_wide a
 obtain ⟨⟨b1, b4⟩, _⟩ := ALW_bs a
 have wb := ALW_wb a
 have eL : c.L = (mOf c : Int) + 1 := by unfold mOf; omega
 have em : mOf c < 3 := by unfold mOf; omega
 have z : SZ c = ((4 * (wn c 0 + wn c (mOf c + 1)) : Nat) : Int) := by
  unfold SZ
  have h0 : c.w0 = (wn c 0 : Int) := wn_eq wb 0 (by omega)
  have h1 : wd c c.L.toNat = (wn c (mOf c + 1) : Int) := by rw [show c.L.toNat = mOf c + 1 by omega]; exact wn_eq wb (mOf c + 1) (by omega)
  rw [h0, h1]; omega
 have zb := SZ_bd a
 unfold DATA at d
 simp only [Bool.and_eq_true, beq_iff_eq] at d
 obtain ⟨d1, d2⟩ := d
 have d3 := inB_iff.1 d2
 have e := Int.mul_ediv_add_emod (s.size : Int) (SZ c)
 rw [d1, Int.add_zero] at e
 have ens : ((nsOf c s : Nat) : Int) = (s.size : Int) / SZ c := by unfold nsOf; omega
 refine ⟨eL, em, wb, fun k hk => ?_, ?_, by omega, by omega, by unfold nbOf; omega, by unfold nbOf; omega, by unfold nbOf; omega⟩
 · have := lw k (by omega); unfold wn; omega
 · rw [← ens, z, ← Int.natCast_mul] at e
   have := Int.ofNat.inj e
   rw [← this, Nat.mul_comm]
theorem iter_step {c : Cf} {m : Nat} {s : ByteArray} {ns nb i : Nat} {t : Nt} {r : Tr} {q : St} {w : World} (hc : t.c = c) (hm : t.m = m) (hs : r.s = s) (hns : r.ns = ns) (ok : t.ok) (c2 : c.ok2) (sok : q.ok) (hn : NetR t w) (hr : TrS t r w) (hq : StS q (sn c (m + 1)) i (RUN c m s ns nb i).P (RUN c m s ns nb i).V (RUN c m s ns nb i).M w) (ap : ∀ b, r.O b → ¬ t.O b) (asn : ∀ b, q.O b → ¬ t.O b) (ar : ∀ b, q.O b → ¬ r.O b)
 (gk : Nat) (kl : gk < w.heap.size) (kO : ¬ t.O gk) (kc : ∀ b, b < nb → w.cell? ⟨gk, b, none⟩ = some (.int .i64 (PKN c ns i nb b : Int))) (n1 : 1 ≤ ns) (n16 : ns ≤ 16) (hb : c.batch = (nb : Int)) (nb1 : nb ≤ 4) (i4 : i ≤ 1000000) (ck : Nat) :
 Calls Tryz.prog 13 #[.pointer (some ⟨r.T, 0, none⟩), .pointer (some ⟨q.Ss, 0, none⟩), .slice (some ⟨gk, 0, none⟩) nb ck] w fun e w' =>
  e = .returned (.tuple #[]) ∧ NetR t w' ∧ TrS t r w' ∧ StS q (sn c (m + 1)) (i + 1) (RUN c m s ns nb (i + 1)).P (RUN c m s ns nb (i + 1)).V (RUN c m s ns nb (i + 1)).M w' ∧ But (fun k => t.O k ∨ q.O k) w w' := by
 subst hc hm hs hns
 have p := RUN_pats t.c t.m r.s r.ns nb i
 exact step_any t r q _ _ _ i gk ck nb (PKN t.c r.ns i nb) w ok c2 sok hn hr hq ap asn ar p.1 p.2.1 p.2.2 kl kO kc (fun b _ => PKN_lt t.c r.ns i nb b n1 n16) hb (by omega) (by omega) i4
end Go.Proofs.YtoihkljlekknkaaGreat
