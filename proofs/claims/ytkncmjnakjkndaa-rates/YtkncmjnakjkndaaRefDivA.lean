/-
  What tutorref.Div answers where one of the two is no number, infinite or a nought. Conditions: the patterns are 0 to 2^32 - 1.
-/
import Derived.Test.YtkncmjnakjkndaaRefMul
import Derived.Test.YtkncmjnakjkndaaRefFull
namespace Go.Proofs.Ytkncmjnakjkndaa
open Go.RowKit
set_option linter.unusedVariables false
set_option linter.unusedSimpArgs false
theorem none_not_inf {a : Int} (h : isNone a = true) : isInf a = false := by
  have : 2139095040 < a % 2147483648 := by unfold isNone at h; simpa using h
  exact isInf_f (by omega)
theorem none_man {a : Int} (h : isNone a = true) : ofM a = 0 := by
  have : 2139095040 < a % 2147483648 := by unfold isNone at h; simpa using h
  unfold ofM; rw [if_neg (by omega)]
set_option maxHeartbeats 1000000 in
theorem rdiv_1a (a b : Int) (w : World) (h0 : 0 ≤ a) (h1 : a < 4294967296) (g0 : 0 ≤ b) (g1 : b < 4294967296) (na : isNone a = true) (ia : isInf a = false) (ea : ofM a = 0) (ib : isInf b = true) :
    Calls Try.prog 24 #[.int .i64 a, .int .i64 b] w fun e w' => e = .returned (.int .i64 (2143289344)) ∧ Below w.heap.size w w' := by
  go_enter Try.func24, Try.ntmps24
  go_wp2_with fail
  refine (of_any _ _ h0 h1).mono ?_
  rintro e w1 ⟨rfl, hb1⟩
  unfold numV
  have s1 := hb1.size
  have HB1 : Hid _ := hb1
  clear hb1
  go_wp2_with fail
  refine (of_any _ _ g0 g1).mono ?_
  rintro e w2 ⟨rfl, hb2⟩
  unfold numV
  obtain ⟨x0, x1, x2, x3, x4, f0, f1, f2, f3, f4, s2⟩ := box_cells hb2
  have HB2 : Hid _ := hb2
  clear hb2
  go_wp2_with fail
  go_ret
  exact ⟨rfl, ((HB1.out.alloc s1 _).trans (HB2.out.mono (by rw [World.size_alloc]; omega))).alloc (by omega) _⟩
set_option maxHeartbeats 1000000 in
theorem rdiv_1b (a b : Int) (w : World) (h0 : 0 ≤ a) (h1 : a < 4294967296) (g0 : 0 ≤ b) (g1 : b < 4294967296) (na : isNone a = true) (ia : isInf a = false) (ea : ofM a = 0) (ib : isInf b = false) (mb : (ofM b == 0) = true) :
    Calls Try.prog 24 #[.int .i64 a, .int .i64 b] w fun e w' => e = .returned (.int .i64 (2143289344)) ∧ Below w.heap.size w w' := by
  go_enter Try.func24, Try.ntmps24
  go_wp2_with fail
  refine (of_any _ _ h0 h1).mono ?_
  rintro e w1 ⟨rfl, hb1⟩
  unfold numV
  have s1 := hb1.size
  have HB1 : Hid _ := hb1
  clear hb1
  go_wp2_with fail
  refine (of_any _ _ g0 g1).mono ?_
  rintro e w2 ⟨rfl, hb2⟩
  unfold numV
  obtain ⟨x0, x1, x2, x3, x4, f0, f1, f2, f3, f4, s2⟩ := box_cells hb2
  have HB2 : Hid _ := hb2
  clear hb2
  go_wp2_with fail
  go_ret
  exact ⟨rfl, ((HB1.out.alloc s1 _).trans (HB2.out.mono (by rw [World.size_alloc]; omega))).alloc (by omega) _⟩
set_option maxHeartbeats 1000000 in
theorem rdiv_1c (a b : Int) (w : World) (h0 : 0 ≤ a) (h1 : a < 4294967296) (g0 : 0 ≤ b) (g1 : b < 4294967296) (na : isNone a = true) (ia : isInf a = false) (ea : ofM a = 0) (ib : isInf b = false) (mb : (ofM b == 0) = false) :
    Calls Try.prog 24 #[.int .i64 a, .int .i64 b] w fun e w' => e = .returned (.int .i64 (2143289344)) ∧ Below w.heap.size w w' := by
  go_enter Try.func24, Try.ntmps24
  go_wp2_with fail
  refine (of_any _ _ h0 h1).mono ?_
  rintro e w1 ⟨rfl, hb1⟩
  unfold numV
  have s1 := hb1.size
  have HB1 : Hid _ := hb1
  clear hb1
  go_wp2_with fail
  refine (of_any _ _ g0 g1).mono ?_
  rintro e w2 ⟨rfl, hb2⟩
  unfold numV
  obtain ⟨x0, x1, x2, x3, x4, f0, f1, f2, f3, f4, s2⟩ := box_cells hb2
  have HB2 : Hid _ := hb2
  clear hb2
  go_wp2_with fail
  go_ret
  exact ⟨rfl, ((HB1.out.alloc s1 _).trans (HB2.out.mono (by rw [World.size_alloc]; omega))).alloc (by omega) _⟩
set_option maxHeartbeats 1000000 in
theorem rdiv_2a (a b : Int) (w : World) (h0 : 0 ≤ a) (h1 : a < 4294967296) (g0 : 0 ≤ b) (g1 : b < 4294967296) (na : isNone a = false) (nb : isNone b = true) (ib : isInf b = false) (eb : ofM b = 0) (ia : isInf a = true) :
    Calls Try.prog 24 #[.int .i64 a, .int .i64 b] w fun e w' => e = .returned (.int .i64 (2143289344)) ∧ Below w.heap.size w w' := by
  go_enter Try.func24, Try.ntmps24
  go_wp2_with fail
  refine (of_any _ _ h0 h1).mono ?_
  rintro e w1 ⟨rfl, hb1⟩
  unfold numV
  have s1 := hb1.size
  have HB1 : Hid _ := hb1
  clear hb1
  go_wp2_with fail
  refine (of_any _ _ g0 g1).mono ?_
  rintro e w2 ⟨rfl, hb2⟩
  unfold numV
  obtain ⟨x0, x1, x2, x3, x4, f0, f1, f2, f3, f4, s2⟩ := box_cells hb2
  have HB2 : Hid _ := hb2
  clear hb2
  go_wp2_with fail
  go_ret
  exact ⟨rfl, ((HB1.out.alloc s1 _).trans (HB2.out.mono (by rw [World.size_alloc]; omega))).alloc (by omega) _⟩
set_option maxHeartbeats 1000000 in
theorem rdiv_2b (a b : Int) (w : World) (h0 : 0 ≤ a) (h1 : a < 4294967296) (g0 : 0 ≤ b) (g1 : b < 4294967296) (na : isNone a = false) (nb : isNone b = true) (ib : isInf b = false) (eb : ofM b = 0) (ia : isInf a = false) (ma : (ofM a == 0) = true) :
    Calls Try.prog 24 #[.int .i64 a, .int .i64 b] w fun e w' => e = .returned (.int .i64 (2143289344)) ∧ Below w.heap.size w w' := by
  go_enter Try.func24, Try.ntmps24
  go_wp2_with fail
  refine (of_any _ _ h0 h1).mono ?_
  rintro e w1 ⟨rfl, hb1⟩
  unfold numV
  have s1 := hb1.size
  have HB1 : Hid _ := hb1
  clear hb1
  go_wp2_with fail
  refine (of_any _ _ g0 g1).mono ?_
  rintro e w2 ⟨rfl, hb2⟩
  unfold numV
  obtain ⟨x0, x1, x2, x3, x4, f0, f1, f2, f3, f4, s2⟩ := box_cells hb2
  have HB2 : Hid _ := hb2
  clear hb2
  go_wp2_with fail
  go_ret
  exact ⟨rfl, ((HB1.out.alloc s1 _).trans (HB2.out.mono (by rw [World.size_alloc]; omega))).alloc (by omega) _⟩
set_option maxHeartbeats 1000000 in
theorem rdiv_2c (a b : Int) (w : World) (h0 : 0 ≤ a) (h1 : a < 4294967296) (g0 : 0 ≤ b) (g1 : b < 4294967296) (na : isNone a = false) (nb : isNone b = true) (ib : isInf b = false) (eb : ofM b = 0) (ia : isInf a = false) (ma : (ofM a == 0) = false) :
    Calls Try.prog 24 #[.int .i64 a, .int .i64 b] w fun e w' => e = .returned (.int .i64 (2143289344)) ∧ Below w.heap.size w w' := by
  go_enter Try.func24, Try.ntmps24
  go_wp2_with fail
  refine (of_any _ _ h0 h1).mono ?_
  rintro e w1 ⟨rfl, hb1⟩
  unfold numV
  have s1 := hb1.size
  have HB1 : Hid _ := hb1
  clear hb1
  go_wp2_with fail
  refine (of_any _ _ g0 g1).mono ?_
  rintro e w2 ⟨rfl, hb2⟩
  unfold numV
  obtain ⟨x0, x1, x2, x3, x4, f0, f1, f2, f3, f4, s2⟩ := box_cells hb2
  have HB2 : Hid _ := hb2
  clear hb2
  go_wp2_with fail
  go_ret
  exact ⟨rfl, ((HB1.out.alloc s1 _).trans (HB2.out.mono (by rw [World.size_alloc]; omega))).alloc (by omega) _⟩
set_option maxHeartbeats 1000000 in
theorem rdiv_3 (a b : Int) (w : World) (h0 : 0 ≤ a) (h1 : a < 4294967296) (g0 : 0 ≤ b) (g1 : b < 4294967296) (na : isNone a = false) (nb : isNone b = false) (ia : isInf a = true) (ib : isInf b = true) :
    Calls Try.prog 24 #[.int .i64 a, .int .i64 b] w fun e w' => e = .returned (.int .i64 (2143289344)) ∧ Below w.heap.size w w' := by
  go_enter Try.func24, Try.ntmps24
  go_wp2_with fail
  refine (of_any _ _ h0 h1).mono ?_
  rintro e w1 ⟨rfl, hb1⟩
  unfold numV
  have s1 := hb1.size
  have HB1 : Hid _ := hb1
  clear hb1
  go_wp2_with fail
  refine (of_any _ _ g0 g1).mono ?_
  rintro e w2 ⟨rfl, hb2⟩
  unfold numV
  obtain ⟨x0, x1, x2, x3, x4, f0, f1, f2, f3, f4, s2⟩ := box_cells hb2
  have HB2 : Hid _ := hb2
  clear hb2
  go_wp2_with fail
  go_ret
  exact ⟨rfl, ((HB1.out.alloc s1 _).trans (HB2.out.mono (by rw [World.size_alloc]; omega))).alloc (by omega) _⟩
set_option maxHeartbeats 1000000 in
theorem rdiv_4a (a b : Int) (w : World) (h0 : 0 ≤ a) (h1 : a < 4294967296) (g0 : 0 ≤ b) (g1 : b < 4294967296) (na : isNone a = false) (nb : isNone b = false) (ia : isInf a = true) (ib : isInf b = false) (mb : (ofM b == 0) = true) :
    Calls Try.prog 24 #[.int .i64 a, .int .i64 b] w fun e w' => e = .returned (.int .i64 (2139095040 + sg (isNeg a != isNeg b))) ∧ Below w.heap.size w w' := by
  go_enter Try.func24, Try.ntmps24
  go_wp2_with fail
  refine (of_any _ _ h0 h1).mono ?_
  rintro e w1 ⟨rfl, hb1⟩
  unfold numV
  have s1 := hb1.size
  have HB1 : Hid _ := hb1
  clear hb1
  go_wp2_with fail
  refine (of_any _ _ g0 g1).mono ?_
  rintro e w2 ⟨rfl, hb2⟩
  unfold numV
  obtain ⟨x0, x1, x2, x3, x4, f0, f1, f2, f3, f4, s2⟩ := box_cells hb2
  have HB2 : Hid _ := hb2
  clear hb2
  go_wp2_with (first | (go_at_call 71; refine (signed_any _ _ _ (by omega) (by omega)).mono ?_; rintro e w' ⟨rfl, rfl⟩))
  go_ret
  exact ⟨rfl, ((HB1.out.alloc s1 _).trans (HB2.out.mono (by rw [World.size_alloc]; omega))).alloc (by omega) _⟩
set_option maxHeartbeats 1000000 in
theorem rdiv_4b (a b : Int) (w : World) (h0 : 0 ≤ a) (h1 : a < 4294967296) (g0 : 0 ≤ b) (g1 : b < 4294967296) (na : isNone a = false) (nb : isNone b = false) (ia : isInf a = true) (ib : isInf b = false) (mb : (ofM b == 0) = false) :
    Calls Try.prog 24 #[.int .i64 a, .int .i64 b] w fun e w' => e = .returned (.int .i64 (2139095040 + sg (isNeg a != isNeg b))) ∧ Below w.heap.size w w' := by
  go_enter Try.func24, Try.ntmps24
  go_wp2_with fail
  refine (of_any _ _ h0 h1).mono ?_
  rintro e w1 ⟨rfl, hb1⟩
  unfold numV
  have s1 := hb1.size
  have HB1 : Hid _ := hb1
  clear hb1
  go_wp2_with fail
  refine (of_any _ _ g0 g1).mono ?_
  rintro e w2 ⟨rfl, hb2⟩
  unfold numV
  obtain ⟨x0, x1, x2, x3, x4, f0, f1, f2, f3, f4, s2⟩ := box_cells hb2
  have HB2 : Hid _ := hb2
  clear hb2
  go_wp2_with (first | (go_at_call 71; refine (signed_any _ _ _ (by omega) (by omega)).mono ?_; rintro e w' ⟨rfl, rfl⟩))
  go_ret
  exact ⟨rfl, ((HB1.out.alloc s1 _).trans (HB2.out.mono (by rw [World.size_alloc]; omega))).alloc (by omega) _⟩
set_option maxHeartbeats 1000000 in
theorem rdiv_5 (a b : Int) (w : World) (h0 : 0 ≤ a) (h1 : a < 4294967296) (g0 : 0 ≤ b) (g1 : b < 4294967296) (na : isNone a = false) (nb : isNone b = false) (ia : isInf a = false) (ib : isInf b = false) (ma : (ofM a == 0) = true) (mb : (ofM b == 0) = true) :
    Calls Try.prog 24 #[.int .i64 a, .int .i64 b] w fun e w' => e = .returned (.int .i64 (2143289344)) ∧ Below w.heap.size w w' := by
  go_enter Try.func24, Try.ntmps24
  go_wp2_with fail
  refine (of_any _ _ h0 h1).mono ?_
  rintro e w1 ⟨rfl, hb1⟩
  unfold numV
  have s1 := hb1.size
  have HB1 : Hid _ := hb1
  clear hb1
  go_wp2_with fail
  refine (of_any _ _ g0 g1).mono ?_
  rintro e w2 ⟨rfl, hb2⟩
  unfold numV
  obtain ⟨x0, x1, x2, x3, x4, f0, f1, f2, f3, f4, s2⟩ := box_cells hb2
  have HB2 : Hid _ := hb2
  clear hb2
  go_wp2_with fail
  go_ret
  exact ⟨rfl, ((HB1.out.alloc s1 _).trans (HB2.out.mono (by rw [World.size_alloc]; omega))).alloc (by omega) _⟩
set_option maxHeartbeats 1000000 in
theorem rdiv_6 (a b : Int) (w : World) (h0 : 0 ≤ a) (h1 : a < 4294967296) (g0 : 0 ≤ b) (g1 : b < 4294967296) (na : isNone a = false) (nb : isNone b = false) (ia : isInf a = false) (ib : isInf b = false) (ma : (ofM a == 0) = false) (mb : (ofM b == 0) = true) :
    Calls Try.prog 24 #[.int .i64 a, .int .i64 b] w fun e w' => e = .returned (.int .i64 (2139095040 + sg (isNeg a != isNeg b))) ∧ Below w.heap.size w w' := by
  go_enter Try.func24, Try.ntmps24
  go_wp2_with fail
  refine (of_any _ _ h0 h1).mono ?_
  rintro e w1 ⟨rfl, hb1⟩
  unfold numV
  have s1 := hb1.size
  have HB1 : Hid _ := hb1
  clear hb1
  go_wp2_with fail
  refine (of_any _ _ g0 g1).mono ?_
  rintro e w2 ⟨rfl, hb2⟩
  unfold numV
  obtain ⟨x0, x1, x2, x3, x4, f0, f1, f2, f3, f4, s2⟩ := box_cells hb2
  have HB2 : Hid _ := hb2
  clear hb2
  go_wp2_with (first | (go_at_call 71; refine (signed_any _ _ _ (by omega) (by omega)).mono ?_; rintro e w' ⟨rfl, rfl⟩))
  go_ret
  exact ⟨rfl, ((HB1.out.alloc s1 _).trans (HB2.out.mono (by rw [World.size_alloc]; omega))).alloc (by omega) _⟩
set_option maxHeartbeats 1000000 in
theorem rdiv_7a (a b : Int) (w : World) (h0 : 0 ≤ a) (h1 : a < 4294967296) (g0 : 0 ≤ b) (g1 : b < 4294967296) (na : isNone a = false) (nb : isNone b = false) (ia : isInf a = false) (ib : isInf b = true) (ma : (ofM a == 0) = true) :
    Calls Try.prog 24 #[.int .i64 a, .int .i64 b] w fun e w' => e = .returned (.int .i64 (sg (isNeg a != isNeg b))) ∧ Below w.heap.size w w' := by
  go_enter Try.func24, Try.ntmps24
  go_wp2_with fail
  refine (of_any _ _ h0 h1).mono ?_
  rintro e w1 ⟨rfl, hb1⟩
  unfold numV
  have s1 := hb1.size
  have HB1 : Hid _ := hb1
  clear hb1
  go_wp2_with fail
  refine (of_any _ _ g0 g1).mono ?_
  rintro e w2 ⟨rfl, hb2⟩
  unfold numV
  obtain ⟨x0, x1, x2, x3, x4, f0, f1, f2, f3, f4, s2⟩ := box_cells hb2
  have HB2 : Hid _ := hb2
  clear hb2
  go_wp2_with (first | (go_at_call 71; refine (signed_any _ _ _ (by omega) (by omega)).mono ?_; rintro e w' ⟨rfl, rfl⟩))
  go_ret
  exact ⟨rfl, ((HB1.out.alloc s1 _).trans (HB2.out.mono (by rw [World.size_alloc]; omega))).alloc (by omega) _⟩
set_option maxHeartbeats 1000000 in
theorem rdiv_7b (a b : Int) (w : World) (h0 : 0 ≤ a) (h1 : a < 4294967296) (g0 : 0 ≤ b) (g1 : b < 4294967296) (na : isNone a = false) (nb : isNone b = false) (ia : isInf a = false) (ib : isInf b = true) (ma : (ofM a == 0) = false) :
    Calls Try.prog 24 #[.int .i64 a, .int .i64 b] w fun e w' => e = .returned (.int .i64 (sg (isNeg a != isNeg b))) ∧ Below w.heap.size w w' := by
  go_enter Try.func24, Try.ntmps24
  go_wp2_with fail
  refine (of_any _ _ h0 h1).mono ?_
  rintro e w1 ⟨rfl, hb1⟩
  unfold numV
  have s1 := hb1.size
  have HB1 : Hid _ := hb1
  clear hb1
  go_wp2_with fail
  refine (of_any _ _ g0 g1).mono ?_
  rintro e w2 ⟨rfl, hb2⟩
  unfold numV
  obtain ⟨x0, x1, x2, x3, x4, f0, f1, f2, f3, f4, s2⟩ := box_cells hb2
  have HB2 : Hid _ := hb2
  clear hb2
  go_wp2_with (first | (go_at_call 71; refine (signed_any _ _ _ (by omega) (by omega)).mono ?_; rintro e w' ⟨rfl, rfl⟩))
  go_ret
  exact ⟨rfl, ((HB1.out.alloc s1 _).trans (HB2.out.mono (by rw [World.size_alloc]; omega))).alloc (by omega) _⟩
set_option maxHeartbeats 1000000 in
theorem rdiv_8 (a b : Int) (w : World) (h0 : 0 ≤ a) (h1 : a < 4294967296) (g0 : 0 ≤ b) (g1 : b < 4294967296) (na : isNone a = false) (nb : isNone b = false) (ia : isInf a = false) (ib : isInf b = false) (ma : (ofM a == 0) = true) (mb : (ofM b == 0) = false) :
    Calls Try.prog 24 #[.int .i64 a, .int .i64 b] w fun e w' => e = .returned (.int .i64 (sg (isNeg a != isNeg b))) ∧ Below w.heap.size w w' := by
  go_enter Try.func24, Try.ntmps24
  go_wp2_with fail
  refine (of_any _ _ h0 h1).mono ?_
  rintro e w1 ⟨rfl, hb1⟩
  unfold numV
  have s1 := hb1.size
  have HB1 : Hid _ := hb1
  clear hb1
  go_wp2_with fail
  refine (of_any _ _ g0 g1).mono ?_
  rintro e w2 ⟨rfl, hb2⟩
  unfold numV
  obtain ⟨x0, x1, x2, x3, x4, f0, f1, f2, f3, f4, s2⟩ := box_cells hb2
  have HB2 : Hid _ := hb2
  clear hb2
  go_wp2_with (first | (go_at_call 71; refine (signed_any _ _ _ (by omega) (by omega)).mono ?_; rintro e w' ⟨rfl, rfl⟩))
  go_ret
  exact ⟨rfl, ((HB1.out.alloc s1 _).trans (HB2.out.mono (by rw [World.size_alloc]; omega))).alloc (by omega) _⟩
end Go.Proofs.Ytkncmjnakjkndaa
