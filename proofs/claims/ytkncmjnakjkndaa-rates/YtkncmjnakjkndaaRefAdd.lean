/-
  What tutorref.Add answers for every two patterns but where the second has the greater power of 2: P2 by the document's answer. Conditions: the patterns are 0 to 2^32 - 1.
-/
import Derived.Test.YtkncmjnakjkndaaRefExact
namespace Go.Proofs.Ytkncmjnakjkndaa
open Go.RowKit
set_option linter.unusedVariables false
set_option linter.unusedSimpArgs false
theorem box_cells {w w' : World} {v0 v1 v2 v3 v4 : Value} (hb : Below (w.alloc (.cells #[v0, v1, v2, v3, v4] 71)).heap.size (w.alloc (.cells #[v0, v1, v2, v3, v4] 71)) w') :
    w'.cell? ⟨w.heap.size, 0, none⟩ = some v0 ∧ w'.cell? ⟨w.heap.size, 1, none⟩ = some v1 ∧ w'.cell? ⟨w.heap.size, 2, none⟩ = some v2 ∧ w'.cell? ⟨w.heap.size, 3, none⟩ = some v3 ∧ w'.cell? ⟨w.heap.size, 4, none⟩ = some v4 ∧
    w'.frozen? ⟨w.heap.size, 0, none⟩ = false ∧ w'.frozen? ⟨w.heap.size, 1, none⟩ = false ∧ w'.frozen? ⟨w.heap.size, 2, none⟩ = false ∧ w'.frozen? ⟨w.heap.size, 3, none⟩ = false ∧ w'.frozen? ⟨w.heap.size, 4, none⟩ = false ∧ w.heap.size < w'.heap.size := by
  have hs := hb.size
  rw [World.size_alloc] at hs
  refine ⟨?_, ?_, ?_, ?_, ?_, ?_, ?_, ?_, ?_, ?_, by omega⟩
  all_goals first | (rw [hb.cell (by simp)]; simp [go_sem]) | (rw [hb.frozen (by simp)]; simp [go_sem])
set_option maxHeartbeats 1000000 in
theorem radd_1 (a b : Int) (w : World) (h0 : 0 ≤ a) (h1 : a < 4294967296) (g0 : 0 ≤ b) (g1 : b < 4294967296) (na : isNone a = true) :
    Calls Try.prog 19 #[.int .i64 a, .int .i64 b] w fun e w' => e = .returned (.int .i64 2143289344) ∧ Below w.heap.size w w' := by
  go_enter Try.func19, Try.ntmps19
  go_wp2_with fail
  refine (of_any _ _ h0 h1).mono ?_
  rintro e w1 ⟨rfl, hb1⟩
  unfold numV
  have s1 := hb1.size
  have HB1 : Hid _ := hb1
  clear hb1
  go_wp2_with fail
  refine (of_any _ _ g0 g1).mono ?_
  rintro e w2 ⟨rfl, hb2⟩
  unfold numV
  obtain ⟨x0, x1, x2, x3, x4, f0, f1, f2, f3, f4, s2⟩ := box_cells hb2
  have HB2 : Hid _ := hb2
  clear hb2
  go_wp2_with fail
  go_ret
  exact ⟨rfl, ((HB1.out.alloc s1 _).trans (HB2.out.mono (by rw [World.size_alloc]; omega))).alloc (by omega) _⟩
set_option maxHeartbeats 1000000 in
theorem radd_2 (a b : Int) (w : World) (h0 : 0 ≤ a) (h1 : a < 4294967296) (g0 : 0 ≤ b) (g1 : b < 4294967296) (na : isNone a = false) (nb : isNone b = true) :
    Calls Try.prog 19 #[.int .i64 a, .int .i64 b] w fun e w' => e = .returned (.int .i64 2143289344) ∧ Below w.heap.size w w' := by
  go_enter Try.func19, Try.ntmps19
  go_wp2_with fail
  refine (of_any _ _ h0 h1).mono ?_
  rintro e w1 ⟨rfl, hb1⟩
  unfold numV
  have s1 := hb1.size
  have HB1 : Hid _ := hb1
  clear hb1
  go_wp2_with fail
  refine (of_any _ _ g0 g1).mono ?_
  rintro e w2 ⟨rfl, hb2⟩
  unfold numV
  obtain ⟨x0, x1, x2, x3, x4, f0, f1, f2, f3, f4, s2⟩ := box_cells hb2
  have HB2 : Hid _ := hb2
  clear hb2
  go_wp2_with fail
  go_ret
  exact ⟨rfl, ((HB1.out.alloc s1 _).trans (HB2.out.mono (by rw [World.size_alloc]; omega))).alloc (by omega) _⟩
set_option maxHeartbeats 1000000 in
theorem radd_3a (a b : Int) (w : World) (h0 : 0 ≤ a) (h1 : a < 4294967296) (g0 : 0 ≤ b) (g1 : b < 4294967296) (na : isNone a = false) (nb : isNone b = false) (ia : isInf a = true) (ib : isInf b = true) (ea : isNeg a = true) (eb : isNeg b = false) :
    Calls Try.prog 19 #[.int .i64 a, .int .i64 b] w fun e w' => e = .returned (.int .i64 2143289344) ∧ Below w.heap.size w w' := by
  go_enter Try.func19, Try.ntmps19
  go_wp2_with fail
  refine (of_any _ _ h0 h1).mono ?_
  rintro e w1 ⟨rfl, hb1⟩
  unfold numV
  have s1 := hb1.size
  have HB1 : Hid _ := hb1
  clear hb1
  go_wp2_with fail
  refine (of_any _ _ g0 g1).mono ?_
  rintro e w2 ⟨rfl, hb2⟩
  unfold numV
  obtain ⟨x0, x1, x2, x3, x4, f0, f1, f2, f3, f4, s2⟩ := box_cells hb2
  have HB2 : Hid _ := hb2
  clear hb2
  go_wp2_with fail
  go_ret
  exact ⟨rfl, ((HB1.out.alloc s1 _).trans (HB2.out.mono (by rw [World.size_alloc]; omega))).alloc (by omega) _⟩
set_option maxHeartbeats 1000000 in
theorem radd_3b (a b : Int) (w : World) (h0 : 0 ≤ a) (h1 : a < 4294967296) (g0 : 0 ≤ b) (g1 : b < 4294967296) (na : isNone a = false) (nb : isNone b = false) (ia : isInf a = true) (ib : isInf b = true) (ea : isNeg a = false) (eb : isNeg b = true) :
    Calls Try.prog 19 #[.int .i64 a, .int .i64 b] w fun e w' => e = .returned (.int .i64 2143289344) ∧ Below w.heap.size w w' := by
  go_enter Try.func19, Try.ntmps19
  go_wp2_with fail
  refine (of_any _ _ h0 h1).mono ?_
  rintro e w1 ⟨rfl, hb1⟩
  unfold numV
  have s1 := hb1.size
  have HB1 : Hid _ := hb1
  clear hb1
  go_wp2_with fail
  refine (of_any _ _ g0 g1).mono ?_
  rintro e w2 ⟨rfl, hb2⟩
  unfold numV
  obtain ⟨x0, x1, x2, x3, x4, f0, f1, f2, f3, f4, s2⟩ := box_cells hb2
  have HB2 : Hid _ := hb2
  clear hb2
  go_wp2_with fail
  go_ret
  exact ⟨rfl, ((HB1.out.alloc s1 _).trans (HB2.out.mono (by rw [World.size_alloc]; omega))).alloc (by omega) _⟩
set_option maxHeartbeats 1000000 in
theorem radd_4a (a b : Int) (w : World) (h0 : 0 ≤ a) (h1 : a < 4294967296) (g0 : 0 ≤ b) (g1 : b < 4294967296) (na : isNone a = false) (nb : isNone b = false) (ia : isInf a = true) (ib : isInf b = true) (ea : isNeg a = true) (eb : isNeg b = true) :
    Calls Try.prog 19 #[.int .i64 a, .int .i64 b] w fun e w' => e = .returned (.int .i64 a) ∧ Below w.heap.size w w' := by
  go_enter Try.func19, Try.ntmps19
  go_wp2_with fail
  refine (of_any _ _ h0 h1).mono ?_
  rintro e w1 ⟨rfl, hb1⟩
  unfold numV
  have s1 := hb1.size
  have HB1 : Hid _ := hb1
  clear hb1
  go_wp2_with fail
  refine (of_any _ _ g0 g1).mono ?_
  rintro e w2 ⟨rfl, hb2⟩
  unfold numV
  obtain ⟨x0, x1, x2, x3, x4, f0, f1, f2, f3, f4, s2⟩ := box_cells hb2
  have HB2 : Hid _ := hb2
  clear hb2
  go_wp2_with fail
  go_ret
  exact ⟨rfl, ((HB1.out.alloc s1 _).trans (HB2.out.mono (by rw [World.size_alloc]; omega))).alloc (by omega) _⟩
set_option maxHeartbeats 1000000 in
theorem radd_4b (a b : Int) (w : World) (h0 : 0 ≤ a) (h1 : a < 4294967296) (g0 : 0 ≤ b) (g1 : b < 4294967296) (na : isNone a = false) (nb : isNone b = false) (ia : isInf a = true) (ib : isInf b = true) (ea : isNeg a = false) (eb : isNeg b = false) :
    Calls Try.prog 19 #[.int .i64 a, .int .i64 b] w fun e w' => e = .returned (.int .i64 a) ∧ Below w.heap.size w w' := by
  go_enter Try.func19, Try.ntmps19
  go_wp2_with fail
  refine (of_any _ _ h0 h1).mono ?_
  rintro e w1 ⟨rfl, hb1⟩
  unfold numV
  have s1 := hb1.size
  have HB1 : Hid _ := hb1
  clear hb1
  go_wp2_with fail
  refine (of_any _ _ g0 g1).mono ?_
  rintro e w2 ⟨rfl, hb2⟩
  unfold numV
  obtain ⟨x0, x1, x2, x3, x4, f0, f1, f2, f3, f4, s2⟩ := box_cells hb2
  have HB2 : Hid _ := hb2
  clear hb2
  go_wp2_with fail
  go_ret
  exact ⟨rfl, ((HB1.out.alloc s1 _).trans (HB2.out.mono (by rw [World.size_alloc]; omega))).alloc (by omega) _⟩
set_option maxHeartbeats 1000000 in
theorem radd_5 (a b : Int) (w : World) (h0 : 0 ≤ a) (h1 : a < 4294967296) (g0 : 0 ≤ b) (g1 : b < 4294967296) (na : isNone a = false) (nb : isNone b = false) (ia : isInf a = true) (ib : isInf b = false) :
    Calls Try.prog 19 #[.int .i64 a, .int .i64 b] w fun e w' => e = .returned (.int .i64 a) ∧ Below w.heap.size w w' := by
  go_enter Try.func19, Try.ntmps19
  go_wp2_with fail
  refine (of_any _ _ h0 h1).mono ?_
  rintro e w1 ⟨rfl, hb1⟩
  unfold numV
  have s1 := hb1.size
  have HB1 : Hid _ := hb1
  clear hb1
  go_wp2_with fail
  refine (of_any _ _ g0 g1).mono ?_
  rintro e w2 ⟨rfl, hb2⟩
  unfold numV
  obtain ⟨x0, x1, x2, x3, x4, f0, f1, f2, f3, f4, s2⟩ := box_cells hb2
  have HB2 : Hid _ := hb2
  clear hb2
  go_wp2_with fail
  go_ret
  exact ⟨rfl, ((HB1.out.alloc s1 _).trans (HB2.out.mono (by rw [World.size_alloc]; omega))).alloc (by omega) _⟩
set_option maxHeartbeats 1000000 in
theorem radd_6 (a b : Int) (w : World) (h0 : 0 ≤ a) (h1 : a < 4294967296) (g0 : 0 ≤ b) (g1 : b < 4294967296) (na : isNone a = false) (nb : isNone b = false) (ia : isInf a = false) (ib : isInf b = true) :
    Calls Try.prog 19 #[.int .i64 a, .int .i64 b] w fun e w' => e = .returned (.int .i64 b) ∧ Below w.heap.size w w' := by
  go_enter Try.func19, Try.ntmps19
  go_wp2_with fail
  refine (of_any _ _ h0 h1).mono ?_
  rintro e w1 ⟨rfl, hb1⟩
  unfold numV
  have s1 := hb1.size
  have HB1 : Hid _ := hb1
  clear hb1
  go_wp2_with fail
  refine (of_any _ _ g0 g1).mono ?_
  rintro e w2 ⟨rfl, hb2⟩
  unfold numV
  obtain ⟨x0, x1, x2, x3, x4, f0, f1, f2, f3, f4, s2⟩ := box_cells hb2
  have HB2 : Hid _ := hb2
  clear hb2
  go_wp2_with fail
  go_ret
  exact ⟨rfl, ((HB1.out.alloc s1 _).trans (HB2.out.mono (by rw [World.size_alloc]; omega))).alloc (by omega) _⟩
theorem ofM_fin (a : Int) (h : a % 2147483648 < 2139095040) : ofM a = manI a := by unfold ofM; rw [if_pos h]
theorem ofE_fin (a : Int) (h : a % 2147483648 < 2139095040) : ofE a = exI a := by unfold ofE; rw [if_pos h]
/-- two boxes behind a call that makes memory of its own -/
theorem two_boxes {w w' : World} {B : Nat} {u : Value} {v0 v1 v2 v3 v4 : Value} (hb : Below (w.alloc (.cells #[v0, v1, v2, v3, v4] 71)).heap.size (w.alloc (.cells #[v0, v1, v2, v3, v4] 71)) w') (hB : B < w.heap.size) (hu : w.cell? ⟨B, 2, none⟩ = some u) :
    w'.cell? ⟨B, 2, none⟩ = some u ∧ w'.cell? ⟨w.heap.size, 2, none⟩ = some v2 := by
  constructor
  · rw [hb.cell (p := ⟨B, 2, none⟩) (by rw [World.size_alloc]; show B < _; omega)]
    simp [go_sem, hu, hB]
  · rw [hb.cell (by simp)]; simp [go_sem]
set_option maxHeartbeats 1000000 in
theorem radd_7 (a b : Int) (w : World) (h0 : 0 ≤ a) (h1 : a < 4294967296) (g0 : 0 ≤ b) (g1 : b < 4294967296) (na : isNone a = false) (nb : isNone b = false) (ia : isInf a = false) (ib : isInf b = false)
    (fa : a % 2147483648 < 2139095040) (fb : b % 2147483648 < 2139095040) (hle : exI b ≤ exI a) :
    Calls Try.prog 19 #[.int .i64 a, .int .i64 b] w fun e w' => e = .returned (.int .i64 (ADDf a b)) ∧ Below w.heap.size w w' := by
  have E1 := ofM_fin a fa
  have E2 := ofE_fin a fa
  have E3 := ofM_fin b fb
  have E4 := ofE_fin b fb
  have xa := exI_bd a
  have xb := exI_bd b
  have ma := manI_bd a
  have mb := manI_bd b
  clear fb
  go_enter Try.func19, Try.ntmps19
  go_wp2_with fail
  refine (of_any _ _ h0 h1).mono ?_
  rintro e w1 ⟨rfl, hb1⟩
  unfold numV
  have s1 := hb1.size
  have HB1 : Hid _ := hb1
  clear hb1
  go_wp2_with fail
  refine (of_any _ _ g0 g1).mono ?_
  rintro e w2 ⟨rfl, hb2⟩
  unfold numV
  obtain ⟨x0, x1, x2, x3, x4, f0, f1, f2, f3, f4, s2⟩ := box_cells hb2
  have HB2 : Hid _ := hb2
  clear hb2
  go_wp2_with fail
  refine (exact_any _ _ _ _ _ _ _ _ _ _ _ ma.1 ma.2 mb.1 mb.2 xb.1 hle xa.2).mono ?_
  rintro e w3 ⟨rfl, hb3⟩
  obtain ⟨y2, z2⟩ := two_boxes (u := .bool (isNeg a)) hb3 s2 x2
  have s3 := hb3.size
  rw [World.size_alloc] at s3
  have HB3 : Hid _ := hb3
  clear hb3
  obtain ⟨Z, hZ⟩ : ∃ Z, Z = exZ (ng (isNeg a) (manI a)) (ng (isNeg b) (manI b)) (exI a - exI b) := ⟨_, rfl⟩
  obtain ⟨F, hF⟩ : ∃ F, F = exF (ng (isNeg b) (manI b)) (exI a) (exI b) := ⟨_, rfl⟩
  obtain ⟨k1, k2, k3, k4, k5, k6, k7⟩ := exact_ok a b h0 h1 g0 g1 (by unfold sz; omega) hle Z F hZ hF
  rw [← hZ, ← hF]
  clear hZ hF
  have BB : Hid (Below w.heap.size w w3) := (((HB1.out.alloc s1 _).trans (HB2.out.mono (by rw [World.size_alloc]; omega))).alloc (by omega) _).trans (HB3.out.mono (by rw [World.size_alloc]; omega))
  clear HB1 HB2 HB3 x0 x1 x2 x3 x4 f0 f1 f2 f3 f4
  by_cases c1 : Z < 0
  · have R : Hid _ := k1 c1
    clear k1 k2 k3
    go_wp2_with (first | (go_at_call 65; refine (round_any _ _ _ _ (by omega) (by omega) (by omega) (by omega)).mono ?_; rintro e w' ⟨rfl, rfl⟩))
    go_ret
    exact ⟨congrArg Ending.returned (congrArg (Value.int IntKind.i64) R.out), BB.out⟩
  · by_cases c2 : Z = 0
    · have R : Hid _ := k3 c2
      have D : (Z == 0) = true := by simpa using c2
      clear k1 k2 k3
      obtain ⟨sa, hsa⟩ : ∃ s, s = isNeg a := ⟨_, rfl⟩
      obtain ⟨sb, hsb⟩ : ∃ s, s = isNeg b := ⟨_, rfl⟩
      have R' : Hid (sg (sa && sb) = ADDf a b) := by
        rw [hsa, hsb]
        show _ = _
        rw [← R.out]
        by_cases n1 : 2147483648 ≤ a <;> by_cases n2 : 2147483648 ≤ b <;> simp [sg, isNeg, n1, n2]
      rw [← hsa] at y2
      rw [← hsb] at z2
      subst c2
      clear hsa hsb R D
      cases sa <;> cases sb
      all_goals
        go_wp2_with (first | (go_at_call 65; refine (round_any _ _ _ _ (by omega) (by omega) (by omega) (by omega)).mono ?_; rintro e w' ⟨rfl, rfl⟩))
        go_ret
        refine ⟨congrArg Ending.returned (congrArg (Value.int IntKind.i64) ?_), BB.out⟩
        rw [← R'.out, RI_zero]; rfl
    · have R : Hid _ := k2 (by omega)
      have D : (Z == 0) = false := by simpa using c2
      clear k1 k2 k3 c2
      go_wp2_with (first | (go_at_call 65; refine (round_any _ _ _ _ (by omega) (by omega) (by omega) (by omega)).mono ?_; rintro e w' ⟨rfl, rfl⟩))
      go_ret
      refine ⟨congrArg Ending.returned (congrArg (Value.int IntKind.i64) ?_), BB.out⟩
      rw [← R.out]; simp [sg]
end Go.Proofs.Ytkncmjnakjkndaa
