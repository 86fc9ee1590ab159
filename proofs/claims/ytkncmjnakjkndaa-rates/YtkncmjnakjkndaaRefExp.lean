/-
  What tutorref.Exp answers: the same as soft.Exp. Conditions: the pattern is 0 to 2^32 - 1.
-/
import Derived.Test.YtkncmjnakjkndaaRefPoly
import Derived.Test.YtkncmjnakjkndaaRefDiv
import Derived.Test.YtkncmjnakjkndaaRefLess
import Derived.Test.YtkncmjnakjkndaaCurvesSoft
namespace Go.Proofs.Ytkncmjnakjkndaa
open Go.RowKit
set_option linter.unusedVariables false
set_option linter.unusedSimpArgs false
theorem BBstep {w W W' : World} (h : Hid (Below w.heap.size w W)) (hb : Below W.heap.size W W') : Hid (Below w.heap.size w W') := h.out.trans (hb.mono h.out.size)
theorem BBstepA {w W W' : World} {o : Obj} (h : Hid (Below w.heap.size w W)) (hb : Below (W.alloc o).heap.size (W.alloc o) W') : Hid (Below w.heap.size w W') :=
  (h.out.alloc h.out.size o).trans (hb.mono (by rw [World.size_alloc]; have := h.out.size; omega))
theorem BBend {w W : World} (h : Hid (Below w.heap.size w W)) : Below w.heap.size w W := h
theorem BBendA {w W : World} {o : Obj} (h : Hid (Below w.heap.size w W)) : Below w.heap.size w (W.alloc o) := h.out.alloc h.out.size o
theorem rcells7 (w : World) : ∀ j, j < 7 → (w.alloc (.cells #[.int .i64 985008993, .int .i64 1007192201, .int .i64 1026206379, .int .i64 1042983595, .int .i64 1056964608, .int .i64 1065353216, .int .i64 1065353216] 3)).cell? ⟨w.heap.size, j, none⟩ = some (.int .i64 (cExp j)) := by
  intro j hj
  match j, hj with
  | 0, _ => simp [go_sem, cExp]
  | 1, _ => simp [go_sem, cExp]
  | 2, _ => simp [go_sem, cExp]
  | 3, _ => simp [go_sem, cExp]
  | 4, _ => simp [go_sem, cExp]
  | 5, _ => simp [go_sem, cExp]
  | 6, _ => simp [go_sem, cExp]
theorem rcells5 (w : World) : ∀ j, j < 5 → (w.alloc (.cells #[.int .i64 936381697, .int .i64 3132492641, .int .i64 1026206379, .int .i64 3204448256, .int .i64 1065353216] 3)).cell? ⟨w.heap.size, j, none⟩ = some (.int .i64 (cCos j)) := by
  intro j hj
  match j, hj with
  | 0, _ => simp [go_sem, cCos]
  | 1, _ => simp [go_sem, cCos]
  | 2, _ => simp [go_sem, cCos]
  | 3, _ => simp [go_sem, cCos]
  | 4, _ => simp [go_sem, cCos]
set_option maxHeartbeats 1000000 in
theorem rexp_1 (a : Int) (w : World) (h0 : 0 ≤ a) (h1 : a < 4294967296) (na : isNone a = true) :
    Calls Try.prog 37 #[.int .i64 a] w fun e w' => e = .returned (.int .i64 2143289344) ∧ Below w.heap.size w w' := by
  have BB : Hid (Below w.heap.size w w) := Below.refl _ _
  go_enter Try.func37, Try.ntmps37
  go_wp2_with (first | (go_at_call 63; refine (of_any _ _ (by omega) (by omega)).mono ?_; rintro e wn ⟨rfl, hbn⟩; (first | replace BB := BBstep BB hbn | replace BB := BBstepA BB hbn); clear hbn; unfold numV))
  go_ret
  exact ⟨rfl, BBendA BB⟩
set_option maxHeartbeats 1000000 in
theorem rexp_2 (a : Int) (w : World) (h0 : 0 ≤ a) (h1 : a < 4294967296) (na : isNone a = false) (l1 : LESS 1118925335 a = true) :
    Calls Try.prog 37 #[.int .i64 a] w fun e w' => e = .returned (.int .i64 2139095040) ∧ Below w.heap.size w w' := by
  have BB : Hid (Below w.heap.size w w) := Below.refl _ _
  go_enter Try.func37, Try.ntmps37
  go_wp2_with (first | (go_at_call 63; refine (of_any _ _ (by omega) (by omega)).mono ?_; rintro e wn ⟨rfl, hbn⟩; (first | replace BB := BBstep BB hbn | replace BB := BBstepA BB hbn); clear hbn; unfold numV) | (go_at_call 30; refine (rless_any _ _ _ (by omega) (by omega) (by omega) (by omega)).mono ?_; rintro e wn ⟨rfl, hbn⟩; (first | replace BB := BBstep BB hbn | replace BB := BBstepA BB hbn); clear hbn))
  go_ret
  exact ⟨rfl, BBend BB⟩
set_option maxHeartbeats 1000000 in
theorem rexp_3 (a : Int) (w : World) (h0 : 0 ≤ a) (h1 : a < 4294967296) (na : isNone a = false) (l1 : LESS 1118925335 a = false) (l2 : LESS a 3268407733 = true) :
    Calls Try.prog 37 #[.int .i64 a] w fun e w' => e = .returned (.int .i64 0) ∧ Below w.heap.size w w' := by
  have BB : Hid (Below w.heap.size w w) := Below.refl _ _
  go_enter Try.func37, Try.ntmps37
  go_wp2_with (first | (go_at_call 63; refine (of_any _ _ (by omega) (by omega)).mono ?_; rintro e wn ⟨rfl, hbn⟩; (first | replace BB := BBstep BB hbn | replace BB := BBstepA BB hbn); clear hbn; unfold numV) | (go_at_call 30; refine (rless_any _ _ _ (by omega) (by omega) (by omega) (by omega)).mono ?_; rintro e wn ⟨rfl, hbn⟩; (first | replace BB := BBstep BB hbn | replace BB := BBstepA BB hbn); clear hbn))
  go_ret
  exact ⟨rfl, BBend BB⟩
set_option maxHeartbeats 4000000 in
theorem rexp_4 (a : Int) (w : World) (h0 : 0 ≤ a) (h1 : a < 4294967296) (na : isNone a = false) (l1 : LESS 1118925335 a = false) (l2 : LESS a 3268407733 = false) (kb : -156 ≤ EXPk a ∧ EXPk a ≤ 156) :
    Calls Try.prog 37 #[.int .i64 a] w fun e w' => e = .returned (.int .i64 (EXPf a)) ∧ Below w.heap.size w w' := by
  unfold EXPf EXPr
  unfold EXPk at kb ⊢
  have b1 := MUL_bd a 1069066811
  obtain ⟨A1, e1⟩ : ∃ x, MUL a 1069066811 = x := ⟨_, rfl⟩
  rw [e1] at b1 kb ⊢
  obtain ⟨K, e2⟩ : ∃ x, TOI A1 = x := ⟨_, rfl⟩
  rw [e2] at kb ⊢
  have b3 := FROMI_bd K
  obtain ⟨Fr, e3⟩ : ∃ x, FROMI K = x := ⟨_, rfl⟩
  rw [e3] at b3 ⊢
  have b4 := MUL_bd Fr 1060205056
  obtain ⟨M1, e4⟩ : ∃ x, MUL Fr 1060205056 = x := ⟨_, rfl⟩
  rw [e4] at b4 ⊢
  have b5 := SUB_bd a M1 h0 h1
  obtain ⟨S1, e5⟩ : ∃ x, SUB a M1 = x := ⟨_, rfl⟩
  rw [e5] at b5 ⊢
  have b6 := MUL_bd Fr 901758606
  obtain ⟨M2, e6⟩ : ∃ x, MUL Fr 901758606 = x := ⟨_, rfl⟩
  rw [e6] at b6 ⊢
  have b7 := SUB_bd S1 M2 b5.1 b5.2
  obtain ⟨R, e7⟩ : ∃ x, SUB S1 M2 = x := ⟨_, rfl⟩
  rw [e7] at b7 ⊢
  have b8 := polyK_bd cExp R cExp_bd 6
  obtain ⟨P, e8⟩ : ∃ x, polyK cExp R 6 = x := ⟨_, rfl⟩
  rw [e8] at b8 ⊢
  obtain ⟨H, hH⟩ : ∃ H, H = K / 2 := ⟨_, rfl⟩
  rw [← hH]
  have b9 := POW_bd H (by omega) (by omega)
  have b10 := POW_bd (K - H) (by omega) (by omega)
  obtain ⟨W1, e9⟩ : ∃ x, POW H = x := ⟨_, rfl⟩
  obtain ⟨W2, e10⟩ : ∃ x, POW (K - H) = x := ⟨_, rfl⟩
  rw [e9] at b9
  rw [e10] at b10
  rw [e9, e10]
  have b11 := MUL_bd P W1
  obtain ⟨Q1, e11⟩ : ∃ x, MUL P W1 = x := ⟨_, rfl⟩
  rw [e11] at b11 ⊢
  have hHb : -78 ≤ H ∧ H ≤ 78 := by omega
  have kh : -79 ≤ K - H ∧ K - H ≤ 79 := by omega
  have tm := Int.tmod_add_mul_tdiv K 2
  have t1 := Int.lt_tmod_of_pos K (show (0 : Int) < 2 by decide)
  have t2 := Int.tmod_lt_of_pos K (show (0 : Int) < 2 by decide)
  have t3 : K < 0 → K.tmod 2 = -((-K) % 2) := fun hk => by rw [← Int.tmod_eq_emod_of_nonneg (show 0 ≤ -K by omega), Int.neg_tmod, Int.neg_neg]
  have BB : Hid (Below w.heap.size w w) := Below.refl _ _
  by_cases kn : K < 0
  · replace t3 := t3 kn
    by_cases ke : K % 2 = 0
    · have u1 : K.tmod 2 = 0 := Int.tmod_eq_zero_of_dvd (Int.dvd_of_emod_eq_zero ke)
      have u2 : K.tdiv 2 = H := by omega
      clear tm t1 t2 t3 ke hH
      go_enter Try.func37, Try.ntmps37
      go_wp2_with (first | (go_at_call 63; refine (of_any _ _ (by omega) (by omega)).mono ?_; rintro e wn ⟨rfl, hbn⟩; (first | replace BB := BBstep BB hbn | replace BB := BBstepA BB hbn); clear hbn; unfold numV) | (go_at_call 30; refine (rless_any _ _ _ (by omega) (by omega) (by omega) (by omega)).mono ?_; rintro e wn ⟨rfl, hbn⟩; (first | replace BB := BBstep BB hbn | replace BB := BBstepA BB hbn); clear hbn) | (go_at_call 23; refine (rmul_any _ _ _ (by omega) (by omega) (by omega) (by omega)).mono ?_; rintro e wn ⟨rfl, hbn⟩; (first | replace BB := BBstep BB hbn | replace BB := BBstepA BB hbn); clear hbn) | (go_at_call 31; refine (rtoInt_any _ _ (by omega) (by omega)).mono ?_; rintro e wn ⟨rfl, hbn⟩; (first | replace BB := BBstep BB hbn | replace BB := BBstepA BB hbn); clear hbn) | (go_at_call 20; refine (rsub_any _ _ _ (by omega) (by omega) (by omega) (by omega)).mono ?_; rintro e wn ⟨rfl, hbn⟩; (first | replace BB := BBstep BB hbn | replace BB := BBstepA BB hbn); clear hbn) | (go_at_call 32; refine (rfromInt_any _ _ (by omega) (by omega)).mono ?_; rintro e w' ⟨rfl, rfl⟩))
      refine (rpoly_any R 7 cExp _ _ b7.1 b7.2 (by decide) (by decide) (rcells7 _) cExp_bd (by simp)).mono ?_
      rintro e wn ⟨rfl, hbn⟩
      replace BB := BBstepA BB hbn
      clear hbn
      go_wp2_with (first | (go_at_call 23; refine (rmul_any _ _ _ (by omega) (by omega) (by omega) (by omega)).mono ?_; rintro e wn ⟨rfl, hbn⟩; (first | replace BB := BBstep BB hbn | replace BB := BBstepA BB hbn); clear hbn) | (go_at_call 86; refine (rpow_any _ _ (by omega) (by omega)).mono ?_; rintro e w' ⟨rfl, rfl⟩))
      go_ret
      exact ⟨congrArg Ending.returned (congrArg (Value.int IntKind.i64) rfl), BBend BB⟩
    · have u1 : (K.tmod 2 != 0) = true := by rw [bne_iff_ne]; omega
      have u2 : K.tdiv 2 = H + 1 := by omega
      have u3 : H + 1 - 1 = H := by omega
      clear tm t1 t2 t3 ke hH
      go_enter Try.func37, Try.ntmps37
      go_wp2_with (first | (go_at_call 63; refine (of_any _ _ (by omega) (by omega)).mono ?_; rintro e wn ⟨rfl, hbn⟩; (first | replace BB := BBstep BB hbn | replace BB := BBstepA BB hbn); clear hbn; unfold numV) | (go_at_call 30; refine (rless_any _ _ _ (by omega) (by omega) (by omega) (by omega)).mono ?_; rintro e wn ⟨rfl, hbn⟩; (first | replace BB := BBstep BB hbn | replace BB := BBstepA BB hbn); clear hbn) | (go_at_call 23; refine (rmul_any _ _ _ (by omega) (by omega) (by omega) (by omega)).mono ?_; rintro e wn ⟨rfl, hbn⟩; (first | replace BB := BBstep BB hbn | replace BB := BBstepA BB hbn); clear hbn) | (go_at_call 31; refine (rtoInt_any _ _ (by omega) (by omega)).mono ?_; rintro e wn ⟨rfl, hbn⟩; (first | replace BB := BBstep BB hbn | replace BB := BBstepA BB hbn); clear hbn) | (go_at_call 20; refine (rsub_any _ _ _ (by omega) (by omega) (by omega) (by omega)).mono ?_; rintro e wn ⟨rfl, hbn⟩; (first | replace BB := BBstep BB hbn | replace BB := BBstepA BB hbn); clear hbn) | (go_at_call 32; refine (rfromInt_any _ _ (by omega) (by omega)).mono ?_; rintro e w' ⟨rfl, rfl⟩))
      refine (rpoly_any R 7 cExp _ _ b7.1 b7.2 (by decide) (by decide) (rcells7 _) cExp_bd (by simp)).mono ?_
      rintro e wn ⟨rfl, hbn⟩
      replace BB := BBstepA BB hbn
      clear hbn
      go_wp2_with (first | (go_at_call 23; refine (rmul_any _ _ _ (by omega) (by omega) (by omega) (by omega)).mono ?_; rintro e wn ⟨rfl, hbn⟩; (first | replace BB := BBstep BB hbn | replace BB := BBstepA BB hbn); clear hbn) | (go_at_call 86; refine (rpow_any _ _ (by omega) (by omega)).mono ?_; rintro e w' ⟨rfl, rfl⟩))
      go_ret
      exact ⟨congrArg Ending.returned (congrArg (Value.int IntKind.i64) rfl), BBend BB⟩
  · have u2 : K / 2 = H := hH.symm
    clear tm t1 t2 t3 hH
    go_enter Try.func37, Try.ntmps37
    go_wp2_with (first | (go_at_call 63; refine (of_any _ _ (by omega) (by omega)).mono ?_; rintro e wn ⟨rfl, hbn⟩; (first | replace BB := BBstep BB hbn | replace BB := BBstepA BB hbn); clear hbn; unfold numV) | (go_at_call 30; refine (rless_any _ _ _ (by omega) (by omega) (by omega) (by omega)).mono ?_; rintro e wn ⟨rfl, hbn⟩; (first | replace BB := BBstep BB hbn | replace BB := BBstepA BB hbn); clear hbn) | (go_at_call 23; refine (rmul_any _ _ _ (by omega) (by omega) (by omega) (by omega)).mono ?_; rintro e wn ⟨rfl, hbn⟩; (first | replace BB := BBstep BB hbn | replace BB := BBstepA BB hbn); clear hbn) | (go_at_call 31; refine (rtoInt_any _ _ (by omega) (by omega)).mono ?_; rintro e wn ⟨rfl, hbn⟩; (first | replace BB := BBstep BB hbn | replace BB := BBstepA BB hbn); clear hbn) | (go_at_call 20; refine (rsub_any _ _ _ (by omega) (by omega) (by omega) (by omega)).mono ?_; rintro e wn ⟨rfl, hbn⟩; (first | replace BB := BBstep BB hbn | replace BB := BBstepA BB hbn); clear hbn) | (go_at_call 32; refine (rfromInt_any _ _ (by omega) (by omega)).mono ?_; rintro e w' ⟨rfl, rfl⟩))
    refine (rpoly_any R 7 cExp _ _ b7.1 b7.2 (by decide) (by decide) (rcells7 _) cExp_bd (by simp)).mono ?_
    rintro e wn ⟨rfl, hbn⟩
    replace BB := BBstepA BB hbn
    clear hbn
    go_wp2_with (first | (go_at_call 23; refine (rmul_any _ _ _ (by omega) (by omega) (by omega) (by omega)).mono ?_; rintro e wn ⟨rfl, hbn⟩; (first | replace BB := BBstep BB hbn | replace BB := BBstepA BB hbn); clear hbn) | (go_at_call 86; refine (rpow_any _ _ (by omega) (by omega)).mono ?_; rintro e w' ⟨rfl, rfl⟩))
    go_ret
    exact ⟨congrArg Ending.returned (congrArg (Value.int IntKind.i64) rfl), BBend BB⟩
end Go.Proofs.Ytkncmjnakjkndaa
