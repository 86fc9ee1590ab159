/-
  What tutorref.Poly and tutorref.Power answer: a polynomial by tutorref.Add and tutorref.Mul, in whatever order the open one is taken; a power of 2. Conditions: as each theorem names them.
-/
import Derived.Test.YtoihkljlekknkaaGreatRefOf
import Derived.Test.YtoihkljlekknkaaGreatInts
import Derived.Deep.RegionWith
namespace Go.Proofs.YtoihkljlekknkaaGreat
open Go.RowKit
set_option linter.unusedVariables false
set_option linter.unusedSimpArgs false
set_option maxHeartbeats 2000000 in
theorem rpoly_any (x : Int) (n : Nat) (c : Nat → Int) (g : Nat) (w : World) (x0 : 0 ≤ x) (x1 : x < 4294967296) (n0 : 1 < n) (n1 : n ≤ 100)
 (hc : ∀ j, j < n → w.cell? ⟨g, j, none⟩ = some (.int .i64 (c j))) (hb : ∀ j, 0 ≤ c j ∧ c j < 4294967296) (hg : g < w.heap.size) :
 Calls Tryz.prog 112 #[.int .i64 x, .slice (some ⟨g, 0, none⟩) n n] w fun e w' => e = .returned (.int .i64 (polyK c x (n - 1))) ∧ Below w.heap.size w w' := by
 have c0 := hc 0 (by omega)
 have HC : Hid _ := hc
 have HBB : Hid _ := hb
 clear hc hb
 go_enter Tryz.func112, Tryz.ntmps112
 go_wp2
 go_loopw [5, 6] (fun pv iv wr => ∃ k : Nat, k + 1 ≤ n ∧ iv = .int .i64 (k + 1 : Nat) ∧ pv = .int .i64 (polyK c x k) ∧ Hid (Below w.heap.size w wr)) (fun _ iv _ => n - (intOf iv).toNat)
 case atStart => exact ⟨0, by omega, rfl, rfl, Below.refl _ _⟩
 case round =>
  obtain ⟨k, hk, rfl, rfl, BW⟩ := hrel
  have pb := polyK_bd c x HBB.out k
  have mb := MUL_bd' (polyK c x k) x
  have R : Hid (polyK c x (k + 1) = ADD (MUL (polyK c x k) x) (c (k + 1))) := rfl
  obtain ⟨p, hp⟩ : ∃ p, p = polyK c x k := ⟨_, rfl⟩
  rw [← hp] at pb mb R ⊢
  have hs := BW.out.size
  by_cases hlt : k + 1 < n
  · have ck : wr.cell? ⟨g, k + 1, none⟩ = some (.int .i64 (c (k + 1))) := by rw [BW.out.cell hg]; exact HC.out (k + 1) hlt
    have cb := HBB.out (k + 1)
    clear hp
    obtain ⟨i, hi⟩ : ∃ i : Nat, i = k + 1 := ⟨_, rfl⟩
    rw [← hi] at ck cb R hlt ⊢
    obtain ⟨ci, hci⟩ : ∃ ci, ci = c i := ⟨_, rfl⟩
    rw [← hci] at ck cb R
    have HI : Hid _ := hi
    have hi0 : 0 < i := by omega
    clear hci hi hk
    go_wp2
    go_region_with (first | (go_at_call 39; refine (rmul_any _ _ _ (by omega) (by omega) (by omega) (by omega)).mono ?_; rintro e w1 ⟨rfl, hb1⟩; have ck1 : w1.cell? ⟨g, i, none⟩ = some (.int .i64 ci) := (hb1.cell (p := ⟨g, i, none⟩) (Nat.lt_of_lt_of_le hg hs)).trans ck; have s1 := hb1.size; have HB1 : Hid _ := hb1; clear hb1) | (go_at_call 45; refine (radd_any _ _ _ (by omega) (by omega) (by omega) (by omega)).mono ?_; rintro e w2 ⟨rfl, hb2⟩; have HB2 : Hid _ := hb2; clear hb2))
    all_goals
     have BB : Hid (Below w.heap.size w w2) := (BW.out.drew.trans (HB1.out.mono hs)).trans (HB2.out.mono (Nat.le_trans hs s1))
     clear HB1 HB2 ck1
     go_wp2
     go_roundw
     case rel => exact ⟨i, by omega, by go_num, congrArg _ R.out.symm, BB⟩
     case measure => simp [intOf]; omega
  · have hkn : k = n - 1 := by omega
    rw [hkn] at hp
    have HP : Hid _ := hp
    clear hp R hkn
    go_wp2
    go_ret
    refine ⟨congrArg Ending.returned (congrArg (Value.int IntKind.i64) ?_), BW.out⟩
    exact HP.out
set_option maxHeartbeats 400000 in
theorem rpow_any (n : Int) (w : World) (h0 : -127 ≤ n) (h1 : n ≤ 128) :
 Calls Tryz.prog 130 #[.int .i64 n] w fun e w' => e = .returned (.int .i64 (POW n)) ∧ w' = w := by
 unfold POW
 go_enter Tryz.func130, Tryz.ntmps130
 go_wp2
 go_ret
 exact ⟨rfl, rfl⟩
end Go.Proofs.YtoihkljlekknkaaGreat
/-
  What tutorref.Exp answers: the same as soft.Exp. Conditions: the pattern is 0 to 2^32 - 1.
-/
namespace Go.Proofs.YtoihkljlekknkaaGreat
open Go.RowKit
set_option linter.unusedVariables false
set_option linter.unusedSimpArgs false
theorem BBstep {w W W' : World} (h : Hid (Below w.heap.size w W)) (hb : Below W.heap.size W W') : Hid (Below w.heap.size w W') := h.out.trans (hb.mono h.out.size)
theorem BBstepA {w W W' : World} {o : Obj} (h : Hid (Below w.heap.size w W)) (hb : Below (W.alloc o).heap.size (W.alloc o) W') : Hid (Below w.heap.size w W') :=
 (h.out.alloc h.out.size o).trans (hb.mono (by rw [World.size_alloc]; have := h.out.size; omega))
theorem BBend {w W : World} (h : Hid (Below w.heap.size w W)) : Below w.heap.size w W := h
theorem BBendA {w W : World} {o : Obj} (h : Hid (Below w.heap.size w W)) : Below w.heap.size w (W.alloc o) := h.out.alloc h.out.size o
theorem rcells7 (w : World) : ∀ j, j < 7 → (w.alloc (.cells #[.int .i64 985008993, .int .i64 1007192201, .int .i64 1026206379, .int .i64 1042983595, .int .i64 1056964608, .int .i64 1065353216, .int .i64 1065353216] 3)).cell? ⟨w.heap.size, j, none⟩ = some (.int .i64 (cExp j)) := by
 intro j hj
 match j, hj with
 | 0, _ => simp [go_sem, cExp]
 | 1, _ => simp [go_sem, cExp]
 | 2, _ => simp [go_sem, cExp]
 | 3, _ => simp [go_sem, cExp]
 | 4, _ => simp [go_sem, cExp]
 | 5, _ => simp [go_sem, cExp]
 | 6, _ => simp [go_sem, cExp]
theorem rcells5 (w : World) : ∀ j, j < 5 → (w.alloc (.cells #[.int .i64 936381697, .int .i64 3132492641, .int .i64 1026206379, .int .i64 3204448256, .int .i64 1065353216] 3)).cell? ⟨w.heap.size, j, none⟩ = some (.int .i64 (cCos j)) := by
 intro j hj
 match j, hj with
 | 0, _ => simp [go_sem, cCos]
 | 1, _ => simp [go_sem, cCos]
 | 2, _ => simp [go_sem, cCos]
 | 3, _ => simp [go_sem, cCos]
 | 4, _ => simp [go_sem, cCos]
set_option maxHeartbeats 1000000 in
theorem rexp_1 (a : Int) (w : World) (h0 : 0 ≤ a) (h1 : a < 4294967296) (na : isNone a = true) :
 Calls Tryz.prog 124 #[.int .i64 a] w fun e w' => e = .returned (.int .i64 2143289344) ∧ Below w.heap.size w w' := by
 have BB : Hid (Below w.heap.size w w) := Below.refl _ _
 go_enter Tryz.func124, Tryz.ntmps124
 go_wp2_with (first | (go_at_call 71; refine (of_any _ _ (by omega) (by omega)).mono ?_; rintro e wn ⟨rfl, hbn⟩; (first | replace BB := BBstep BB hbn | replace BB := BBstepA BB hbn); clear hbn; unfold numV))
 go_ret
 exact ⟨rfl, BBendA BB⟩
set_option maxHeartbeats 1000000 in
theorem rexp_2 (a : Int) (w : World) (h0 : 0 ≤ a) (h1 : a < 4294967296) (na : isNone a = false) (l1 : LESS 1118925335 a = true) :
 Calls Tryz.prog 124 #[.int .i64 a] w fun e w' => e = .returned (.int .i64 2139095040) ∧ Below w.heap.size w w' := by
 have BB : Hid (Below w.heap.size w w) := Below.refl _ _
 go_enter Tryz.func124, Tryz.ntmps124
 go_wp2_with (first | (go_at_call 71; refine (of_any _ _ (by omega) (by omega)).mono ?_; rintro e wn ⟨rfl, hbn⟩; (first | replace BB := BBstep BB hbn | replace BB := BBstepA BB hbn); clear hbn; unfold numV) | (go_at_call 77; refine (rless_any _ _ _ (by omega) (by omega) (by omega) (by omega)).mono ?_; rintro e wn ⟨rfl, hbn⟩; (first | replace BB := BBstep BB hbn | replace BB := BBstepA BB hbn); clear hbn))
 go_ret
 exact ⟨rfl, BBend BB⟩
set_option maxHeartbeats 1000000 in
theorem rexp_3 (a : Int) (w : World) (h0 : 0 ≤ a) (h1 : a < 4294967296) (na : isNone a = false) (l1 : LESS 1118925335 a = false) (l2 : LESS a 3268407733 = true) :
 Calls Tryz.prog 124 #[.int .i64 a] w fun e w' => e = .returned (.int .i64 0) ∧ Below w.heap.size w w' := by
 have BB : Hid (Below w.heap.size w w) := Below.refl _ _
 go_enter Tryz.func124, Tryz.ntmps124
 go_wp2_with (first | (go_at_call 71; refine (of_any _ _ (by omega) (by omega)).mono ?_; rintro e wn ⟨rfl, hbn⟩; (first | replace BB := BBstep BB hbn | replace BB := BBstepA BB hbn); clear hbn; unfold numV) | (go_at_call 77; refine (rless_any _ _ _ (by omega) (by omega) (by omega) (by omega)).mono ?_; rintro e wn ⟨rfl, hbn⟩; (first | replace BB := BBstep BB hbn | replace BB := BBstepA BB hbn); clear hbn))
 go_ret
 exact ⟨rfl, BBend BB⟩
set_option maxHeartbeats 4000000 in
theorem rexp_4 (a : Int) (w : World) (h0 : 0 ≤ a) (h1 : a < 4294967296) (na : isNone a = false) (l1 : LESS 1118925335 a = false) (l2 : LESS a 3268407733 = false) (kb : -156 ≤ EXPk a ∧ EXPk a ≤ 156) :
 Calls Tryz.prog 124 #[.int .i64 a] w fun e w' => e = .returned (.int .i64 (EXPf a)) ∧ Below w.heap.size w w' := by
 unfold EXPf EXPr
 unfold EXPk at kb ⊢
 have b1 := MUL_bd a 1069066811
 obtain ⟨A1, e1⟩ : ∃ x, MUL a 1069066811 = x := ⟨_, rfl⟩
 rw [e1] at b1 kb ⊢
 obtain ⟨K, e2⟩ : ∃ x, TOI A1 = x := ⟨_, rfl⟩
 rw [e2] at kb ⊢
 have b3 := FROMI_bd K
 obtain ⟨Fr, e3⟩ : ∃ x, FROMI K = x := ⟨_, rfl⟩
 rw [e3] at b3 ⊢
 have b4 := MUL_bd Fr 1060205056
 obtain ⟨M1, e4⟩ : ∃ x, MUL Fr 1060205056 = x := ⟨_, rfl⟩
 rw [e4] at b4 ⊢
 have b5 := SUB_bd a M1 h0 h1
 obtain ⟨S1, e5⟩ : ∃ x, SUB a M1 = x := ⟨_, rfl⟩
 rw [e5] at b5 ⊢
 have b6 := MUL_bd Fr 901758606
 obtain ⟨M2, e6⟩ : ∃ x, MUL Fr 901758606 = x := ⟨_, rfl⟩
 rw [e6] at b6 ⊢
 have b7 := SUB_bd S1 M2 b5.1 b5.2
 obtain ⟨R, e7⟩ : ∃ x, SUB S1 M2 = x := ⟨_, rfl⟩
 rw [e7] at b7 ⊢
 have b8 := polyK_bd cExp R cExp_bd 6
 obtain ⟨P, e8⟩ : ∃ x, polyK cExp R 6 = x := ⟨_, rfl⟩
 rw [e8] at b8 ⊢
 obtain ⟨H, hH⟩ : ∃ H, H = K / 2 := ⟨_, rfl⟩
 rw [← hH]
 have b9 := POW_bd H (by omega) (by omega)
 have b10 := POW_bd (K - H) (by omega) (by omega)
 obtain ⟨W1, e9⟩ : ∃ x, POW H = x := ⟨_, rfl⟩
 obtain ⟨W2, e10⟩ : ∃ x, POW (K - H) = x := ⟨_, rfl⟩
 rw [e9] at b9
 rw [e10] at b10
 rw [e9, e10]
 have b11 := MUL_bd P W1
 obtain ⟨Q1, e11⟩ : ∃ x, MUL P W1 = x := ⟨_, rfl⟩
 rw [e11] at b11 ⊢
 have hHb : -78 ≤ H ∧ H ≤ 78 := by omega
 have kh : -79 ≤ K - H ∧ K - H ≤ 79 := by omega
 have tm := Int.tmod_add_mul_tdiv K 2
 have t1 := Int.lt_tmod_of_pos K (show (0 : Int) < 2 by decide)
 have t2 := Int.tmod_lt_of_pos K (show (0 : Int) < 2 by decide)
 have t3 : K < 0 → K.tmod 2 = -((-K) % 2) := fun hk => by rw [← Int.tmod_eq_emod_of_nonneg (show 0 ≤ -K by omega), Int.neg_tmod, Int.neg_neg]
 have BB : Hid (Below w.heap.size w w) := Below.refl _ _
 by_cases kn : K < 0
 · replace t3 := t3 kn
   by_cases ke : K % 2 = 0
   · have u1 : K.tmod 2 = 0 := Int.tmod_eq_zero_of_dvd (Int.dvd_of_emod_eq_zero ke)
     have u2 : K.tdiv 2 = H := by omega
     clear tm t1 t2 t3 ke hH
     go_enter Tryz.func124, Tryz.ntmps124
     go_wp2_with (first | (go_at_call 71; refine (of_any _ _ (by omega) (by omega)).mono ?_; rintro e wn ⟨rfl, hbn⟩; (first | replace BB := BBstep BB hbn | replace BB := BBstepA BB hbn); clear hbn; unfold numV) | (go_at_call 77; refine (rless_any _ _ _ (by omega) (by omega) (by omega) (by omega)).mono ?_; rintro e wn ⟨rfl, hbn⟩; (first | replace BB := BBstep BB hbn | replace BB := BBstepA BB hbn); clear hbn) | (go_at_call 39; refine (rmul_any _ _ _ (by omega) (by omega) (by omega) (by omega)).mono ?_; rintro e wn ⟨rfl, hbn⟩; (first | replace BB := BBstep BB hbn | replace BB := BBstepA BB hbn); clear hbn) | (go_at_call 129; refine (rtoInt_any _ _ (by omega) (by omega)).mono ?_; rintro e wn ⟨rfl, hbn⟩; (first | replace BB := BBstep BB hbn | replace BB := BBstepA BB hbn); clear hbn) | (go_at_call 43; refine (rsub_any _ _ _ (by omega) (by omega) (by omega) (by omega)).mono ?_; rintro e wn ⟨rfl, hbn⟩; (first | replace BB := BBstep BB hbn | replace BB := BBstepA BB hbn); clear hbn) | (go_at_call 40; refine (rfromInt_any _ _ (by omega) (by omega)).mono ?_; rintro e w' ⟨rfl, rfl⟩))
     refine (rpoly_any R 7 cExp _ _ b7.1 b7.2 (by decide) (by decide) (rcells7 _) cExp_bd (by simp)).mono ?_
     rintro e wn ⟨rfl, hbn⟩
     replace BB := BBstepA BB hbn
     clear hbn
     go_wp2_with (first | (go_at_call 39; refine (rmul_any _ _ _ (by omega) (by omega) (by omega) (by omega)).mono ?_; rintro e wn ⟨rfl, hbn⟩; (first | replace BB := BBstep BB hbn | replace BB := BBstepA BB hbn); clear hbn) | (go_at_call 130; refine (rpow_any _ _ (by omega) (by omega)).mono ?_; rintro e w' ⟨rfl, rfl⟩))
     go_ret
     exact ⟨congrArg Ending.returned (congrArg (Value.int IntKind.i64) rfl), BBend BB⟩
   · have u1 : (K.tmod 2 != 0) = true := by rw [bne_iff_ne]; omega
     have u2 : K.tdiv 2 = H + 1 := by omega
     have u3 : H + 1 - 1 = H := by omega
     clear tm t1 t2 t3 ke hH
     go_enter Tryz.func124, Tryz.ntmps124
     go_wp2_with (first | (go_at_call 71; refine (of_any _ _ (by omega) (by omega)).mono ?_; rintro e wn ⟨rfl, hbn⟩; (first | replace BB := BBstep BB hbn | replace BB := BBstepA BB hbn); clear hbn; unfold numV) | (go_at_call 77; refine (rless_any _ _ _ (by omega) (by omega) (by omega) (by omega)).mono ?_; rintro e wn ⟨rfl, hbn⟩; (first | replace BB := BBstep BB hbn | replace BB := BBstepA BB hbn); clear hbn) | (go_at_call 39; refine (rmul_any _ _ _ (by omega) (by omega) (by omega) (by omega)).mono ?_; rintro e wn ⟨rfl, hbn⟩; (first | replace BB := BBstep BB hbn | replace BB := BBstepA BB hbn); clear hbn) | (go_at_call 129; refine (rtoInt_any _ _ (by omega) (by omega)).mono ?_; rintro e wn ⟨rfl, hbn⟩; (first | replace BB := BBstep BB hbn | replace BB := BBstepA BB hbn); clear hbn) | (go_at_call 43; refine (rsub_any _ _ _ (by omega) (by omega) (by omega) (by omega)).mono ?_; rintro e wn ⟨rfl, hbn⟩; (first | replace BB := BBstep BB hbn | replace BB := BBstepA BB hbn); clear hbn) | (go_at_call 40; refine (rfromInt_any _ _ (by omega) (by omega)).mono ?_; rintro e w' ⟨rfl, rfl⟩))
     refine (rpoly_any R 7 cExp _ _ b7.1 b7.2 (by decide) (by decide) (rcells7 _) cExp_bd (by simp)).mono ?_
     rintro e wn ⟨rfl, hbn⟩
     replace BB := BBstepA BB hbn
     clear hbn
     go_wp2_with (first | (go_at_call 39; refine (rmul_any _ _ _ (by omega) (by omega) (by omega) (by omega)).mono ?_; rintro e wn ⟨rfl, hbn⟩; (first | replace BB := BBstep BB hbn | replace BB := BBstepA BB hbn); clear hbn) | (go_at_call 130; refine (rpow_any _ _ (by omega) (by omega)).mono ?_; rintro e w' ⟨rfl, rfl⟩))
     go_ret
     exact ⟨congrArg Ending.returned (congrArg (Value.int IntKind.i64) rfl), BBend BB⟩
 · have u2 : K / 2 = H := hH.symm
   clear tm t1 t2 t3 hH
   go_enter Tryz.func124, Tryz.ntmps124
   go_wp2_with (first | (go_at_call 71; refine (of_any _ _ (by omega) (by omega)).mono ?_; rintro e wn ⟨rfl, hbn⟩; (first | replace BB := BBstep BB hbn | replace BB := BBstepA BB hbn); clear hbn; unfold numV) | (go_at_call 77; refine (rless_any _ _ _ (by omega) (by omega) (by omega) (by omega)).mono ?_; rintro e wn ⟨rfl, hbn⟩; (first | replace BB := BBstep BB hbn | replace BB := BBstepA BB hbn); clear hbn) | (go_at_call 39; refine (rmul_any _ _ _ (by omega) (by omega) (by omega) (by omega)).mono ?_; rintro e wn ⟨rfl, hbn⟩; (first | replace BB := BBstep BB hbn | replace BB := BBstepA BB hbn); clear hbn) | (go_at_call 129; refine (rtoInt_any _ _ (by omega) (by omega)).mono ?_; rintro e wn ⟨rfl, hbn⟩; (first | replace BB := BBstep BB hbn | replace BB := BBstepA BB hbn); clear hbn) | (go_at_call 43; refine (rsub_any _ _ _ (by omega) (by omega) (by omega) (by omega)).mono ?_; rintro e wn ⟨rfl, hbn⟩; (first | replace BB := BBstep BB hbn | replace BB := BBstepA BB hbn); clear hbn) | (go_at_call 40; refine (rfromInt_any _ _ (by omega) (by omega)).mono ?_; rintro e w' ⟨rfl, rfl⟩))
   refine (rpoly_any R 7 cExp _ _ b7.1 b7.2 (by decide) (by decide) (rcells7 _) cExp_bd (by simp)).mono ?_
   rintro e wn ⟨rfl, hbn⟩
   replace BB := BBstepA BB hbn
   clear hbn
   go_wp2_with (first | (go_at_call 39; refine (rmul_any _ _ _ (by omega) (by omega) (by omega) (by omega)).mono ?_; rintro e wn ⟨rfl, hbn⟩; (first | replace BB := BBstep BB hbn | replace BB := BBstepA BB hbn); clear hbn) | (go_at_call 130; refine (rpow_any _ _ (by omega) (by omega)).mono ?_; rintro e w' ⟨rfl, rfl⟩))
   go_ret
   exact ⟨congrArg Ending.returned (congrArg (Value.int IntKind.i64) rfl), BBend BB⟩
end Go.Proofs.YtoihkljlekknkaaGreat
/-
  What tutorref.Sigmoid, Tanh and Cos answer: the same as those of package soft. Conditions: the pattern is 0 to 2^32 - 1.
-/
namespace Go.Proofs.YtoihkljlekknkaaGreat
open Go.RowKit
set_option linter.unusedVariables false
set_option linter.unusedSimpArgs false
theorem rexp_any (a : Int) (w : World) (h0 : 0 ≤ a) (h1 : a < 4294967296) :
 Calls Tryz.prog 124 #[.int .i64 a] w fun e w' => e = .returned (.int .i64 (EXP a)) ∧ Below w.heap.size w w' := by
 unfold EXP
 cases na : isNone a
 · rw [if_neg (by simp)]
   cases l1 : LESS 1118925335 a
   · rw [if_neg (by simp)]
     cases l2 : LESS a 3268407733
     · rw [if_neg (by simp)]; exact rexp_4 a w h0 h1 na l1 l2 (k_bd a h0 h1 na l1 l2)
     · rw [if_pos rfl]; exact rexp_3 a w h0 h1 na l1 l2
   · rw [if_pos rfl]; exact rexp_2 a w h0 h1 na l1
 · rw [if_pos rfl]; exact rexp_1 a w h0 h1 na
theorem SIG_none (a : Int) (h0 : 0 ≤ a) (h1 : a < 4294967296) (na : isNone a = true) : SIG a = 2143289344 := by
 have hn : isNone ((a + 2147483648) % 4294967296) = true := by rw [none_iff] at na ⊢; omega
 have e1 : EXP ((a + 2147483648) % 4294967296) = 2143289344 := by unfold EXP; rw [if_pos hn]
 unfold SIG
 rw [e1, ADD_none (.inr (by decide))]
 unfold DIV
 rw [if_pos (.inr (by decide))]
set_option maxHeartbeats 1000000 in
theorem rsig_any (a : Int) (w : World) (h0 : 0 ≤ a) (h1 : a < 4294967296) :
 Calls Tryz.prog 123 #[.int .i64 a] w fun e w' => e = .returned (.int .i64 (SIG a)) ∧ Below w.heap.size w w' := by
 have BB : Hid (Below w.heap.size w w) := Below.refl _ _
 cases na : isNone a
 · unfold SIG
   have eb := EXP_bd ((a + 2147483648) % 4294967296)
   have ab := ADD_bd 1065353216 (EXP ((a + 2147483648) % 4294967296)) (by decide) (by decide) eb.1 eb.2
   go_enter Tryz.func123, Tryz.ntmps123
   go_wp2_with (first | (go_at_call 71; refine (of_any _ _ (by omega) (by omega)).mono ?_; rintro e wn ⟨rfl, hbn⟩; (first | replace BB := BBstep BB hbn | replace BB := BBstepA BB hbn); clear hbn; unfold numV) | (go_at_call 79; refine (rturned_any _ _ (by omega) (by omega)).mono ?_; rintro e w' ⟨rfl, rfl⟩) | (go_at_call 124; refine (rexp_any _ _ (by omega) (by omega)).mono ?_; rintro e wn ⟨rfl, hbn⟩; (first | replace BB := BBstep BB hbn | replace BB := BBstepA BB hbn); clear hbn) | (go_at_call 45; refine (radd_any _ _ _ (by omega) (by omega) (by omega) (by omega)).mono ?_; rintro e wn ⟨rfl, hbn⟩; (first | replace BB := BBstep BB hbn | replace BB := BBstepA BB hbn); clear hbn) | (go_at_call 46; refine (rdiv_any _ _ _ (by omega) (by omega) (by omega) (by omega)).mono ?_; rintro e wn ⟨rfl, hbn⟩; (first | replace BB := BBstep BB hbn | replace BB := BBstepA BB hbn); clear hbn))
   go_ret
   exact ⟨rfl, BBend BB⟩
 · rw [SIG_none a h0 h1 na]
   go_enter Tryz.func123, Tryz.ntmps123
   go_wp2_with (first | (go_at_call 71; refine (of_any _ _ (by omega) (by omega)).mono ?_; rintro e wn ⟨rfl, hbn⟩; (first | replace BB := BBstep BB hbn | replace BB := BBstepA BB hbn); clear hbn; unfold numV))
   go_ret
   exact ⟨rfl, BBendA BB⟩
set_option maxHeartbeats 1000000 in
theorem rtanh_any (a : Int) (w : World) (h0 : 0 ≤ a) (h1 : a < 4294967296) :
 Calls Tryz.prog 122 #[.int .i64 a] w fun e w' => e = .returned (.int .i64 (TANH a)) ∧ Below w.heap.size w w' := by
 have BB : Hid (Below w.heap.size w w) := Below.refl _ _
 unfold TANH
 have b1 := MUL_bd 1073741824 a
 have b2 := SIG_bd (MUL 1073741824 a)
 have b3 := MUL_bd 1073741824 (SIG (MUL 1073741824 a))
 go_enter Tryz.func122, Tryz.ntmps122
 go_wp2_with (first | (go_at_call 39; refine (rmul_any _ _ _ (by omega) (by omega) (by omega) (by omega)).mono ?_; rintro e wn ⟨rfl, hbn⟩; (first | replace BB := BBstep BB hbn | replace BB := BBstepA BB hbn); clear hbn) | (go_at_call 123; refine (rsig_any _ _ (by omega) (by omega)).mono ?_; rintro e wn ⟨rfl, hbn⟩; (first | replace BB := BBstep BB hbn | replace BB := BBstepA BB hbn); clear hbn) | (go_at_call 43; refine (rsub_any _ _ _ (by omega) (by omega) (by omega) (by omega)).mono ?_; rintro e wn ⟨rfl, hbn⟩; (first | replace BB := BBstep BB hbn | replace BB := BBstepA BB hbn); clear hbn))
 go_ret
 exact ⟨rfl, BBend BB⟩
set_option maxHeartbeats 1000000 in
theorem rcos_any (a : Int) (w : World) (h0 : 0 ≤ a) (h1 : a < 4294967296) :
 Calls Tryz.prog 78 #[.int .i64 a] w fun e w' => e = .returned (.int .i64 (COS a)) ∧ Below w.heap.size w w' := by
 have BB : Hid (Below w.heap.size w w) := Below.refl _ _
 unfold COS
 cases l : LESS 1056964608 a
 · rw [if_neg (by simp)]
   unfold COS1
   have b2 := MUL_bd 1078530011 a
   have b3 := MUL_bd (MUL 1078530011 a) (MUL 1078530011 a)
   go_enter Tryz.func78, Tryz.ntmps78
   go_wp2_with (first | (go_at_call 77; refine (rless_any _ _ _ (by omega) (by omega) (by omega) (by omega)).mono ?_; rintro e wn ⟨rfl, hbn⟩; (first | replace BB := BBstep BB hbn | replace BB := BBstepA BB hbn); clear hbn) | (go_at_call 39; refine (rmul_any _ _ _ (by omega) (by omega) (by omega) (by omega)).mono ?_; rintro e wn ⟨rfl, hbn⟩; (first | replace BB := BBstep BB hbn | replace BB := BBstepA BB hbn); clear hbn))
   refine (rpoly_any _ 5 cCos _ _ b3.1 b3.2 (by decide) (by decide) (rcells5 _) cCos_bd (by simp)).mono ?_
   rintro e wn ⟨rfl, hbn⟩
   replace BB := BBstepA BB hbn
   clear hbn
   go_wp2
   go_ret
   exact ⟨rfl, BBend BB⟩
 · rw [if_pos rfl]
   have b1 := SUB_bd 1065353216 a (by decide) (by decide)
   obtain ⟨b, hb⟩ : ∃ b, SUB 1065353216 a = b := ⟨_, rfl⟩
   rw [hb] at b1 ⊢
   have b4 := COS1_bd b
   unfold COS1 at b4 ⊢
   have b2 := MUL_bd 1078530011 b
   have b3 := MUL_bd (MUL 1078530011 b) (MUL 1078530011 b)
   go_enter Tryz.func78, Tryz.ntmps78
   go_wp2_with (first | (go_at_call 77; refine (rless_any _ _ _ (by omega) (by omega) (by omega) (by omega)).mono ?_; rintro e wn ⟨rfl, hbn⟩; (first | replace BB := BBstep BB hbn | replace BB := BBstepA BB hbn); clear hbn) | (go_at_call 43; refine (rsub_any _ _ _ (by omega) (by omega) (by omega) (by omega)).mono ?_; rintro e wn ⟨rfl, hbn⟩; (first | replace BB := BBstep BB hbn | replace BB := BBstepA BB hbn); clear hbn) | (go_at_call 39; refine (rmul_any _ _ _ (by omega) (by omega) (by omega) (by omega)).mono ?_; rintro e wn ⟨rfl, hbn⟩; (first | replace BB := BBstep BB hbn | replace BB := BBstepA BB hbn); clear hbn))
   refine (rpoly_any _ 5 cCos _ _ b3.1 b3.2 (by decide) (by decide) (rcells5 _) cCos_bd (by simp)).mono ?_
   rintro e wn ⟨rfl, hbn⟩
   replace BB := BBstepA BB hbn
   clear hbn
   go_wp2_with (first | (go_at_call 79; refine (rturned_any _ _ (by omega) (by omega)).mono ?_; rintro e w' ⟨rfl, rfl⟩))
   go_ret
   exact ⟨rfl, BBend BB⟩
theorem TANH_bd (a : Int) : 0 ≤ TANH a ∧ TANH a < 4294967296 := by
 have b3 := MUL_bd 1073741824 (SIG (MUL 1073741824 a))
 exact SUB_bd _ _ b3.1 b3.2
theorem COS_bd (a : Int) : 0 ≤ COS a ∧ COS a < 4294967296 := by
 have h1 := COS1_bd a
 unfold COS; split <;> omega
end Go.Proofs.YtoihkljlekknkaaGreat
/-
  A power, a hidden unit's answer and its error, by the document. Conditions: the patterns are 0 to 2^32 - 1.
-/
namespace Go.Proofs.YtoihkljlekknkaaGreat
open Go.RowKit
set_option linter.unusedVariables false
set_option linter.unusedSimpArgs false
/-- 1 times b, n times -/
def POWN (b : Int) : Nat → Int
 | 0 => 1065353216
 | n + 1 => MUL (POWN b n) b
theorem POWN_bd (b : Int) (n : Nat) : 0 ≤ POWN b n ∧ POWN b n < 4294967296 := by
 cases n with
 | zero => exact ⟨by show (0 : Int) ≤ 1065353216; omega, by show (1065353216 : Int) < 4294967296; omega⟩
 | succ n => exact MUL_bd' _ _
set_option maxHeartbeats 1000000 in
theorem raised_any (b : Int) (n : Nat) (w : World) (h0 : 0 ≤ b) (h1 : b < 4294967296) (hn : n < 4611686018427387904) :
 Calls Tryz.prog 44 #[.int .i64 b, .int .i64 (n : Int)] w fun e w' => e = .returned (.int .i64 (POWN b n)) ∧ Below w.heap.size w w' := by
 go_enter Tryz.func44, Tryz.ntmps44
 go_wp2
 go_loopw [5, 1] (fun pv nv wr => ∃ k : Nat, k ≤ n ∧ nv = .int .i64 k ∧ pv = .int .i64 (POWN b (n - k)) ∧ Hid (Below w.heap.size w wr)) (fun _ nv _ => (intOf nv).toNat)
 case atStart => exact ⟨n, by omega, rfl, by rw [Nat.sub_self]; rfl, Below.refl _ _⟩
 case round =>
  obtain ⟨k, hk, rfl, rfl, BW⟩ := hrel
  by_cases hlt : 0 < k
  · have bd := POWN_bd b (n - k)
    have SU : Hid (POWN b (n - (k - 1)) = MUL (POWN b (n - k)) b) := by
     show _ = _
     rw [show n - (k - 1) = n - k + 1 by omega]; rfl
    obtain ⟨p, hp⟩ : ∃ p, p = POWN b (n - k) := ⟨_, rfl⟩
    rw [← hp] at bd SU ⊢
    clear hp
    have k1 : (1 : Int) ≤ (k : Int) := by omega
    go_wp2_with (first | (go_at_call 39; refine (rmul_any _ _ _ bd.1 bd.2 h0 h1).mono ?_; rintro e w1 ⟨rfl, hb⟩; have HB : Hid (Below w.heap.size w w1) := BW.out.trans (hb.mono BW.out.size); clear hb))
    go_roundw
    case rel => exact ⟨k - 1, by omega, congrArg _ (by omega), congrArg _ SU.out.symm, HB.out⟩
    case measure => simp [intOf]; omega
  · have hk0 : k = 0 := by omega
    subst hk0
    go_wp2
    go_ret
    exact ⟨rfl, BW.out⟩
/-- a hidden unit's answer -/
def BNT (bend s : Int) : Int := if bend = 1 then TANH s else if bend = 2 then SIG s else if LESS 0 s = true then s else 0
/-- a hidden unit's error -/
def SLP (bend blame s a : Int) : Int := if bend = 1 then MUL blame (SUB 1065353216 (MUL a a)) else if bend = 2 then MUL blame (MUL a (SUB 1065353216 a)) else if LESS 0 s = true then blame else 0
theorem BNT_bd (bend s : Int) (h : 0 ≤ s ∧ s < 4294967296) : 0 ≤ BNT bend s ∧ BNT bend s < 4294967296 := by
 unfold BNT
 split
 · exact TANH_bd s
 · split
   · exact SIG_bd s
   · split
     · exact h
     · omega
theorem SLP_bd (bend blame s a : Int) (h : 0 ≤ blame ∧ blame < 4294967296) : 0 ≤ SLP bend blame s a ∧ SLP bend blame s a < 4294967296 := by
 unfold SLP
 split
 · exact MUL_bd' _ _
 · split
   · exact MUL_bd' _ _
   · split
     · exact h
     · omega
set_option maxHeartbeats 1000000 in
theorem rbent_any (bend s : Int) (w : World) (h0 : 0 ≤ s) (h1 : s < 4294967296) :
 Calls Tryz.prog 107 #[.int .i64 bend, .int .i64 s] w fun e w' => e = .returned (.int .i64 (BNT bend s)) ∧ Below w.heap.size w w' := by
 by_cases b1 : bend = 1
 · have R : Hid (BNT bend s = TANH s) := by show _ = _; unfold BNT; rw [if_pos b1]
   subst b1
   go_enter Tryz.func107, Tryz.ntmps107
   go_wp2_with (first | (go_at_call 122; refine (rtanh_any _ _ h0 h1).mono ?_; rintro e w1 ⟨rfl, hb⟩; have HB : Hid _ := hb; clear hb))
   go_ret
   exact ⟨ret_int R.out.symm, HB.out⟩
 · by_cases b2 : bend = 2
   · have R : Hid (BNT bend s = SIG s) := by show _ = _; unfold BNT; rw [if_neg b1, if_pos b2]
     subst b2
     go_enter Tryz.func107, Tryz.ntmps107
     go_wp2_with (first | (go_at_call 123; refine (rsig_any _ _ h0 h1).mono ?_; rintro e w1 ⟨rfl, hb⟩; have HB : Hid _ := hb; clear hb))
     go_ret
     exact ⟨ret_int R.out.symm, HB.out⟩
   · have g1 : (bend == 1) = false := by simpa using b1
     have g2 : (bend == 2) = false := by simpa using b2
     cases hl : LESS 0 s
     · have R : Hid (BNT bend s = 0) := by show _ = _; unfold BNT; rw [if_neg b1, if_neg b2, if_neg (by rw [hl]; simp)]
       clear b1 b2
       go_enter Tryz.func107, Tryz.ntmps107
       go_wp2_with (first | (go_at_call 77; refine (rless_any 0 s _ (by decide) (by decide) h0 h1).mono ?_; rintro e w1 ⟨rfl, hb⟩; rw [hl]; have HB : Hid _ := hb; clear hb))
       go_ret
       exact ⟨ret_int R.out.symm, HB.out⟩
     · have R : Hid (BNT bend s = s) := by show _ = _; unfold BNT; rw [if_neg b1, if_neg b2, if_pos hl]
       clear b1 b2
       go_enter Tryz.func107, Tryz.ntmps107
       go_wp2_with (first | (go_at_call 77; refine (rless_any 0 s _ (by decide) (by decide) h0 h1).mono ?_; rintro e w1 ⟨rfl, hb⟩; rw [hl]; have HB : Hid _ := hb; clear hb))
       go_ret
       exact ⟨ret_int R.out.symm, HB.out⟩
set_option maxHeartbeats 2000000 in
theorem rslope_any (bend blame s a : Int) (w : World) (h0 : 0 ≤ blame ∧ blame < 4294967296) (h1 : 0 ≤ s ∧ s < 4294967296) (h2 : 0 ≤ a ∧ a < 4294967296) :
 Calls Tryz.prog 110 #[.int .i64 bend, .int .i64 blame, .int .i64 s, .int .i64 a] w fun e w' => e = .returned (.int .i64 (SLP bend blame s a)) ∧ Below w.heap.size w w' := by
 by_cases b1 : bend = 1
 · have R : Hid (SLP bend blame s a = MUL blame (SUB 1065353216 (MUL a a))) := by show _ = _; unfold SLP; rw [if_pos b1]
   have m1 := MUL_bd' a a
   obtain ⟨x, hx⟩ : ∃ x, x = MUL a a := ⟨_, rfl⟩
   have X1 : Hid (∀ W, Calls Tryz.prog 39 #[.int .i64 a, .int .i64 a] W fun e w' => e = .returned (.int .i64 x) ∧ Below W.heap.size W w') := fun W => by rw [hx]; exact rmul_any a a W h2.1 h2.2 h2.1 h2.2
   rw [← hx] at m1 R
   have m2 := SUB_bd 1065353216 x (by decide) (by decide)
   obtain ⟨y, hy⟩ : ∃ y, y = SUB 1065353216 x := ⟨_, rfl⟩
   have X2 : Hid (∀ W, Calls Tryz.prog 43 #[.int .i64 1065353216, .int .i64 x] W fun e w' => e = .returned (.int .i64 y) ∧ Below W.heap.size W w') := fun W => by rw [hy]; exact rsub_any 1065353216 x W (by decide) (by decide) m1.1 m1.2
   rw [← hy] at m2 R
   have X3 : Hid (∀ W, Calls Tryz.prog 39 #[.int .i64 blame, .int .i64 y] W fun e w' => e = .returned (.int .i64 (MUL blame y)) ∧ Below W.heap.size W w') := fun W => rmul_any blame y W h0.1 h0.2 m2.1 m2.2
   clear hx hy
   subst b1
   go_enter Tryz.func110, Tryz.ntmps110
   go_wp2_with (first
    | (go_at_call_of 39 (Value.int IntKind.i64 y); refine (X3.out _).mono ?_; rintro e w3 ⟨rfl, hb⟩; have HB3 : Hid _ := hb; clear hb)
    | (go_at_call_of 39 (Value.int IntKind.i64 a); refine (X1.out _).mono ?_; rintro e w1 ⟨rfl, hb⟩; have HB1 : Hid _ := hb; clear hb)
    | (go_at_call 43; refine (X2.out _).mono ?_; rintro e w2 ⟨rfl, hb⟩; have HB2 : Hid _ := hb; clear hb))
   go_ret
   exact ⟨ret_int R.out.symm, (HB1.out.trans (HB2.out.mono HB1.out.size)).trans (HB3.out.mono (Nat.le_trans HB1.out.size HB2.out.size))⟩
 · by_cases b2 : bend = 2
   · have R : Hid (SLP bend blame s a = MUL blame (MUL a (SUB 1065353216 a))) := by show _ = _; unfold SLP; rw [if_neg b1, if_pos b2]
     have m1 := SUB_bd 1065353216 a (by decide) (by decide)
     obtain ⟨x, hx⟩ : ∃ x, x = SUB 1065353216 a := ⟨_, rfl⟩
     have X1 : Hid (∀ W, Calls Tryz.prog 43 #[.int .i64 1065353216, .int .i64 a] W fun e w' => e = .returned (.int .i64 x) ∧ Below W.heap.size W w') := fun W => by rw [hx]; exact rsub_any 1065353216 a W (by decide) (by decide) h2.1 h2.2
     rw [← hx] at m1 R
     have m2 := MUL_bd' a x
     obtain ⟨y, hy⟩ : ∃ y, y = MUL a x := ⟨_, rfl⟩
     have X2 : Hid (∀ W, Calls Tryz.prog 39 #[.int .i64 a, .int .i64 x] W fun e w' => e = .returned (.int .i64 y) ∧ Below W.heap.size W w') := fun W => by rw [hy]; exact rmul_any a x W h2.1 h2.2 m1.1 m1.2
     rw [← hy] at m2 R
     have X3 : Hid (∀ W, Calls Tryz.prog 39 #[.int .i64 blame, .int .i64 y] W fun e w' => e = .returned (.int .i64 (MUL blame y)) ∧ Below W.heap.size W w') := fun W => rmul_any blame y W h0.1 h0.2 m2.1 m2.2
     clear hx hy
     subst b2
     go_enter Tryz.func110, Tryz.ntmps110
     go_wp2_with (first
      | (go_at_call_of 39 (Value.int IntKind.i64 y); refine (X3.out _).mono ?_; rintro e w3 ⟨rfl, hb⟩; have HB3 : Hid _ := hb; clear hb)
      | (go_at_call_of 39 (Value.int IntKind.i64 x); refine (X2.out _).mono ?_; rintro e w2 ⟨rfl, hb⟩; have HB2 : Hid _ := hb; clear hb)
      | (go_at_call 43; refine (X1.out _).mono ?_; rintro e w1 ⟨rfl, hb⟩; have HB1 : Hid _ := hb; clear hb))
     go_ret
     exact ⟨ret_int R.out.symm, (HB1.out.trans (HB2.out.mono HB1.out.size)).trans (HB3.out.mono (Nat.le_trans HB1.out.size HB2.out.size))⟩
   · have g1 : (bend == 1) = false := by simpa using b1
     have g2 : (bend == 2) = false := by simpa using b2
     cases hl : LESS 0 s
     · have R : Hid (SLP bend blame s a = 0) := by show _ = _; unfold SLP; rw [if_neg b1, if_neg b2, if_neg (by rw [hl]; simp)]
       clear b1 b2
       go_enter Tryz.func110, Tryz.ntmps110
       go_wp2_with (first | (go_at_call 77; refine (rless_any 0 s _ (by decide) (by decide) h1.1 h1.2).mono ?_; rintro e w1 ⟨rfl, hb⟩; rw [hl]; have HB : Hid _ := hb; clear hb))
       go_ret
       exact ⟨ret_int R.out.symm, HB.out⟩
     · have R : Hid (SLP bend blame s a = blame) := by show _ = _; unfold SLP; rw [if_neg b1, if_neg b2, if_pos hl]
       clear b1 b2
       go_enter Tryz.func110, Tryz.ntmps110
       go_wp2_with (first | (go_at_call 77; refine (rless_any 0 s _ (by decide) (by decide) h1.1 h1.2).mono ?_; rintro e w1 ⟨rfl, hb⟩; rw [hl]; have HB : Hid _ := hb; clear hb))
       go_ret
       exact ⟨ret_int R.out.symm, HB.out⟩
end Go.Proofs.YtoihkljlekknkaaGreat
