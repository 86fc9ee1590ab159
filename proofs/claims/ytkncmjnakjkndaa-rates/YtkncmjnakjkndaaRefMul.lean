/-
  What tutorref.Mul answers: the same as soft.Mul. Conditions: the patterns are 0 to 2^32 - 1.
-/
import Derived.Test.YtkncmjnakjkndaaRefSum
import Derived.Test.YtkncmjnakjkndaaMulDiv
namespace Go.Proofs.Ytkncmjnakjkndaa
open Go.RowKit
set_option linter.unusedVariables false
set_option linter.unusedSimpArgs false
theorem sgn2_sg (a b : Int) (h0 : 0 ≤ a) (h1 : a < 4294967296) (g0 : 0 ≤ b) (g1 : b < 4294967296) : sgn2 a b = sg (isNeg a != isNeg b) := by
  unfold sgn2
  by_cases ha : 2147483648 ≤ a
  · rw [isNeg_t ha]
    by_cases hb : 2147483648 ≤ b
    · rw [isNeg_t hb, if_pos (by omega)]; rfl
    · rw [isNeg_f hb, if_neg (by omega)]; rfl
  · rw [isNeg_f ha]
    by_cases hb : 2147483648 ≤ b
    · rw [isNeg_t hb, if_neg (by omega)]; rfl
    · rw [isNeg_f hb, if_pos (by omega)]; rfl
theorem nil_man (a : Int) (n : isNone a = false) (i : isInf a = false) : (ofM a == 0) = isNil a := by
  have h1 : ¬ 2139095040 < a % 2147483648 := by unfold isNone at n; simpa using n
  have h2 : ¬ a % 2147483648 = 2139095040 := by unfold isInf at i; simpa using i
  rw [ofM_fin a (by omega)]
  unfold isNil manI
  split
  · rfl
  · rw [Bool.eq_iff_iff]; simp only [beq_iff_eq]; omega
set_option maxHeartbeats 1000000 in
theorem rmul_1 (a b : Int) (w : World) (h0 : 0 ≤ a) (h1 : a < 4294967296) (g0 : 0 ≤ b) (g1 : b < 4294967296) (na : isNone a = true) :
    Calls Try.prog 23 #[.int .i64 a, .int .i64 b] w fun e w' => e = .returned (.int .i64 (2143289344)) ∧ Below w.heap.size w w' := by
  go_enter Try.func23, Try.ntmps23
  go_wp2_with fail
  refine (of_any _ _ h0 h1).mono ?_
  rintro e w1 ⟨rfl, hb1⟩
  unfold numV
  have s1 := hb1.size
  have HB1 : Hid _ := hb1
  clear hb1
  go_wp2_with fail
  refine (of_any _ _ g0 g1).mono ?_
  rintro e w2 ⟨rfl, hb2⟩
  unfold numV
  obtain ⟨x0, x1, x2, x3, x4, f0, f1, f2, f3, f4, s2⟩ := box_cells hb2
  have HB2 : Hid _ := hb2
  clear hb2
  go_wp2_with fail
  go_ret
  exact ⟨rfl, ((HB1.out.alloc s1 _).trans (HB2.out.mono (by rw [World.size_alloc]; omega))).alloc (by omega) _⟩
set_option maxHeartbeats 1000000 in
theorem rmul_2 (a b : Int) (w : World) (h0 : 0 ≤ a) (h1 : a < 4294967296) (g0 : 0 ≤ b) (g1 : b < 4294967296) (na : isNone a = false) (nb : isNone b = true) :
    Calls Try.prog 23 #[.int .i64 a, .int .i64 b] w fun e w' => e = .returned (.int .i64 (2143289344)) ∧ Below w.heap.size w w' := by
  go_enter Try.func23, Try.ntmps23
  go_wp2_with fail
  refine (of_any _ _ h0 h1).mono ?_
  rintro e w1 ⟨rfl, hb1⟩
  unfold numV
  have s1 := hb1.size
  have HB1 : Hid _ := hb1
  clear hb1
  go_wp2_with fail
  refine (of_any _ _ g0 g1).mono ?_
  rintro e w2 ⟨rfl, hb2⟩
  unfold numV
  obtain ⟨x0, x1, x2, x3, x4, f0, f1, f2, f3, f4, s2⟩ := box_cells hb2
  have HB2 : Hid _ := hb2
  clear hb2
  go_wp2_with fail
  go_ret
  exact ⟨rfl, ((HB1.out.alloc s1 _).trans (HB2.out.mono (by rw [World.size_alloc]; omega))).alloc (by omega) _⟩
set_option maxHeartbeats 1000000 in
theorem rmul_3 (a b : Int) (w : World) (h0 : 0 ≤ a) (h1 : a < 4294967296) (g0 : 0 ≤ b) (g1 : b < 4294967296) (na : isNone a = false) (nb : isNone b = false) (ia : isInf a = true) (ib : isInf b = true) :
    Calls Try.prog 23 #[.int .i64 a, .int .i64 b] w fun e w' => e = .returned (.int .i64 (2139095040 + sg (isNeg a != isNeg b))) ∧ Below w.heap.size w w' := by
  go_enter Try.func23, Try.ntmps23
  go_wp2_with fail
  refine (of_any _ _ h0 h1).mono ?_
  rintro e w1 ⟨rfl, hb1⟩
  unfold numV
  have s1 := hb1.size
  have HB1 : Hid _ := hb1
  clear hb1
  go_wp2_with fail
  refine (of_any _ _ g0 g1).mono ?_
  rintro e w2 ⟨rfl, hb2⟩
  unfold numV
  obtain ⟨x0, x1, x2, x3, x4, f0, f1, f2, f3, f4, s2⟩ := box_cells hb2
  have HB2 : Hid _ := hb2
  clear hb2
  go_wp2_with (first | (go_at_call 71; refine (signed_any _ _ _ (by omega) (by omega)).mono ?_; rintro e w' ⟨rfl, rfl⟩))
  go_ret
  exact ⟨rfl, ((HB1.out.alloc s1 _).trans (HB2.out.mono (by rw [World.size_alloc]; omega))).alloc (by omega) _⟩
set_option maxHeartbeats 1000000 in
theorem rmul_4 (a b : Int) (w : World) (h0 : 0 ≤ a) (h1 : a < 4294967296) (g0 : 0 ≤ b) (g1 : b < 4294967296) (na : isNone a = false) (nb : isNone b = false) (ia : isInf a = true) (ib : isInf b = false) (mb : (ofM b == 0) = false) :
    Calls Try.prog 23 #[.int .i64 a, .int .i64 b] w fun e w' => e = .returned (.int .i64 (2139095040 + sg (isNeg a != isNeg b))) ∧ Below w.heap.size w w' := by
  go_enter Try.func23, Try.ntmps23
  go_wp2_with fail
  refine (of_any _ _ h0 h1).mono ?_
  rintro e w1 ⟨rfl, hb1⟩
  unfold numV
  have s1 := hb1.size
  have HB1 : Hid _ := hb1
  clear hb1
  go_wp2_with fail
  refine (of_any _ _ g0 g1).mono ?_
  rintro e w2 ⟨rfl, hb2⟩
  unfold numV
  obtain ⟨x0, x1, x2, x3, x4, f0, f1, f2, f3, f4, s2⟩ := box_cells hb2
  have HB2 : Hid _ := hb2
  clear hb2
  go_wp2_with (first | (go_at_call 71; refine (signed_any _ _ _ (by omega) (by omega)).mono ?_; rintro e w' ⟨rfl, rfl⟩))
  go_ret
  exact ⟨rfl, ((HB1.out.alloc s1 _).trans (HB2.out.mono (by rw [World.size_alloc]; omega))).alloc (by omega) _⟩
set_option maxHeartbeats 1000000 in
theorem rmul_5 (a b : Int) (w : World) (h0 : 0 ≤ a) (h1 : a < 4294967296) (g0 : 0 ≤ b) (g1 : b < 4294967296) (na : isNone a = false) (nb : isNone b = false) (ia : isInf a = false) (ib : isInf b = true) (ma : (ofM a == 0) = false) :
    Calls Try.prog 23 #[.int .i64 a, .int .i64 b] w fun e w' => e = .returned (.int .i64 (2139095040 + sg (isNeg a != isNeg b))) ∧ Below w.heap.size w w' := by
  go_enter Try.func23, Try.ntmps23
  go_wp2_with fail
  refine (of_any _ _ h0 h1).mono ?_
  rintro e w1 ⟨rfl, hb1⟩
  unfold numV
  have s1 := hb1.size
  have HB1 : Hid _ := hb1
  clear hb1
  go_wp2_with fail
  refine (of_any _ _ g0 g1).mono ?_
  rintro e w2 ⟨rfl, hb2⟩
  unfold numV
  obtain ⟨x0, x1, x2, x3, x4, f0, f1, f2, f3, f4, s2⟩ := box_cells hb2
  have HB2 : Hid _ := hb2
  clear hb2
  go_wp2_with (first | (go_at_call 71; refine (signed_any _ _ _ (by omega) (by omega)).mono ?_; rintro e w' ⟨rfl, rfl⟩))
  go_ret
  exact ⟨rfl, ((HB1.out.alloc s1 _).trans (HB2.out.mono (by rw [World.size_alloc]; omega))).alloc (by omega) _⟩
set_option maxHeartbeats 1000000 in
theorem rmul_6 (a b : Int) (w : World) (h0 : 0 ≤ a) (h1 : a < 4294967296) (g0 : 0 ≤ b) (g1 : b < 4294967296) (na : isNone a = false) (nb : isNone b = false) (ia : isInf a = true) (ib : isInf b = false) (mb : (ofM b == 0) = true) :
    Calls Try.prog 23 #[.int .i64 a, .int .i64 b] w fun e w' => e = .returned (.int .i64 (2143289344)) ∧ Below w.heap.size w w' := by
  go_enter Try.func23, Try.ntmps23
  go_wp2_with fail
  refine (of_any _ _ h0 h1).mono ?_
  rintro e w1 ⟨rfl, hb1⟩
  unfold numV
  have s1 := hb1.size
  have HB1 : Hid _ := hb1
  clear hb1
  go_wp2_with fail
  refine (of_any _ _ g0 g1).mono ?_
  rintro e w2 ⟨rfl, hb2⟩
  unfold numV
  obtain ⟨x0, x1, x2, x3, x4, f0, f1, f2, f3, f4, s2⟩ := box_cells hb2
  have HB2 : Hid _ := hb2
  clear hb2
  go_wp2_with fail
  go_ret
  exact ⟨rfl, ((HB1.out.alloc s1 _).trans (HB2.out.mono (by rw [World.size_alloc]; omega))).alloc (by omega) _⟩
set_option maxHeartbeats 1000000 in
theorem rmul_7 (a b : Int) (w : World) (h0 : 0 ≤ a) (h1 : a < 4294967296) (g0 : 0 ≤ b) (g1 : b < 4294967296) (na : isNone a = false) (nb : isNone b = false) (ia : isInf a = false) (ib : isInf b = true) (ma : (ofM a == 0) = true) :
    Calls Try.prog 23 #[.int .i64 a, .int .i64 b] w fun e w' => e = .returned (.int .i64 (2143289344)) ∧ Below w.heap.size w w' := by
  go_enter Try.func23, Try.ntmps23
  go_wp2_with fail
  refine (of_any _ _ h0 h1).mono ?_
  rintro e w1 ⟨rfl, hb1⟩
  unfold numV
  have s1 := hb1.size
  have HB1 : Hid _ := hb1
  clear hb1
  go_wp2_with fail
  refine (of_any _ _ g0 g1).mono ?_
  rintro e w2 ⟨rfl, hb2⟩
  unfold numV
  obtain ⟨x0, x1, x2, x3, x4, f0, f1, f2, f3, f4, s2⟩ := box_cells hb2
  have HB2 : Hid _ := hb2
  clear hb2
  go_wp2_with fail
  go_ret
  exact ⟨rfl, ((HB1.out.alloc s1 _).trans (HB2.out.mono (by rw [World.size_alloc]; omega))).alloc (by omega) _⟩
set_option maxHeartbeats 1000000 in
theorem rmul_8 (a b : Int) (w : World) (h0 : 0 ≤ a) (h1 : a < 4294967296) (g0 : 0 ≤ b) (g1 : b < 4294967296) (na : isNone a = false) (nb : isNone b = false) (ia : isInf a = false) (ib : isInf b = false)
    (fa : a % 2147483648 < 2139095040) (fb : b % 2147483648 < 2139095040) :
    Calls Try.prog 23 #[.int .i64 a, .int .i64 b] w fun e w' => e = .returned (.int .i64 (RI (manI a * manI b) (exI a + exI b) + sg (isNeg a != isNeg b))) ∧ Below w.heap.size w w' := by
  have E1 := ofM_fin a fa
  have E2 := ofE_fin a fa
  have E3 := ofM_fin b fb
  have E4 := ofE_fin b fb
  have xa := exI_bd a
  have xb := exI_bd b
  have ma := manI_bd a
  have mb := manI_bd b
  have P := prod_bd (manI a) (manI b) ma mb
  have T := w64 (manI a * manI b) (by omega)
  obtain ⟨M, hM⟩ : ∃ M, M = manI a * manI b := ⟨_, rfl⟩
  replace T := T.trans hM.symm
  rw [← hM] at P ⊢
  have T2 : manI a * manI b = M := hM.symm
  clear hM
  go_enter Try.func23, Try.ntmps23
  go_wp2_with fail
  refine (of_any _ _ h0 h1).mono ?_
  rintro e w1 ⟨rfl, hb1⟩
  unfold numV
  have s1 := hb1.size
  have HB1 : Hid _ := hb1
  clear hb1
  go_wp2_with fail
  refine (of_any _ _ g0 g1).mono ?_
  rintro e w2 ⟨rfl, hb2⟩
  unfold numV
  obtain ⟨x0, x1, x2, x3, x4, f0, f1, f2, f3, f4, s2⟩ := box_cells hb2
  have HB2 : Hid _ := hb2
  clear hb2
  go_wp2_with (first | (go_at_call 65; refine (round_any _ _ _ _ (by omega) (by omega) (by omega) (by omega)).mono ?_; rintro e w' ⟨rfl, rfl⟩))
  go_ret
  exact ⟨rfl, ((HB1.out.alloc s1 _).trans (HB2.out.mono (by rw [World.size_alloc]; omega))).alloc (by omega) _⟩
theorem rmul_any (a b : Int) (w : World) (h0 : 0 ≤ a) (h1 : a < 4294967296) (g0 : 0 ≤ b) (g1 : b < 4294967296) :
    Calls Try.prog 23 #[.int .i64 a, .int .i64 b] w fun e w' => e = .returned (.int .i64 (MUL a b)) ∧ Below w.heap.size w w' := by
  unfold MUL
  rw [sgn2_sg a b h0 h1 g0 g1, Int.add_comm (sg _) 2139095040, Int.add_comm (sg _) (RI _ _)]
  cases na : isNone a
  · cases nb : isNone b
    · rw [if_neg (by simp)]
      cases ia : isInf a
      · rw [if_neg (by simp)]
        cases ib : isInf b
        · rw [if_neg (by simp)]
          have n1 : ¬ 2139095040 < a % 2147483648 := by unfold isNone at na; simpa using na
          have n2 : ¬ 2139095040 < b % 2147483648 := by unfold isNone at nb; simpa using nb
          have i1 : ¬ a % 2147483648 = 2139095040 := by unfold isInf at ia; simpa using ia
          have i2 : ¬ b % 2147483648 = 2139095040 := by unfold isInf at ib; simpa using ib
          exact rmul_8 a b w h0 h1 g0 g1 na nb ia ib (by omega) (by omega)
        · rw [if_pos rfl]
          have hm := nil_man a na ia
          cases la : isNil a
          · rw [la] at hm; rw [if_neg (by simp)]; exact rmul_5 a b w h0 h1 g0 g1 na nb ia ib hm
          · rw [la] at hm; rw [if_pos rfl]; exact rmul_7 a b w h0 h1 g0 g1 na nb ia ib hm
      · rw [if_pos rfl]
        cases ib : isInf b
        · have hm := nil_man b nb ib
          cases lb : isNil b
          · rw [lb] at hm; rw [if_neg (by simp)]; exact rmul_4 a b w h0 h1 g0 g1 na nb ia ib hm
          · rw [lb] at hm; rw [if_pos rfl]; exact rmul_6 a b w h0 h1 g0 g1 na nb ia ib hm
        · rw [inf_not_nil ib, if_neg (by simp)]; exact rmul_3 a b w h0 h1 g0 g1 na nb ia ib
    · rw [if_pos (by simp)]; exact rmul_2 a b w h0 h1 g0 g1 na nb
  · rw [if_pos (by simp)]; exact rmul_1 a b w h0 h1 g0 g1 na
end Go.Proofs.Ytkncmjnakjkndaa
