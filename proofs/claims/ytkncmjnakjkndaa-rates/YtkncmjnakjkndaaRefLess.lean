/-
  What tutorref.Less and tutorref.ToInt answer: the same as soft.Less and soft.ToInt. Conditions: the patterns are 0 to 2^32 - 1.
-/
import Derived.Test.YtkncmjnakjkndaaRefInts
import Derived.Test.YtkncmjnakjkndaaRefFull
import Derived.Test.YtkncmjnakjkndaaSqrt
namespace Go.Proofs.Ytkncmjnakjkndaa
open Go.RowKit
set_option linter.unusedVariables false
set_option linter.unusedSimpArgs false
set_option maxHeartbeats 1000000 in
theorem rless_any (a b : Int) (w : World) (h0 : 0 ≤ a) (h1 : a < 4294967296) (g0 : 0 ≤ b) (g1 : b < 4294967296) :
    Calls Try.prog 30 #[.int .i64 a, .int .i64 b] w fun e w' => e = .returned (.bool (LESS a b)) ∧ Below w.heap.size w w' := by
  unfold LESS
  cases na : isNone a <;> cases nb : isNone b
  all_goals
    go_enter Try.func30, Try.ntmps30
    go_wp2_with fail
    refine (of_any _ _ h0 h1).mono ?_
    rintro e w1 ⟨rfl, hb1⟩
    unfold numV
    have s1 := hb1.size
    have HB1 : Hid _ := hb1
    clear hb1
    go_wp2_with fail
    refine (of_any _ _ g0 g1).mono ?_
    rintro e w2 ⟨rfl, hb2⟩
    unfold numV
    obtain ⟨x0, x1, x2, x3, x4, f0, f1, f2, f3, f4, s2⟩ := box_cells hb2
    have HB2 : Hid _ := hb2
    clear hb2
    go_wp2_with (first | (go_at_call 80; refine (rplace_any _ _ (by assumption) (by assumption)).mono ?_; rintro e w' ⟨rfl, rfl⟩))
    go_ret
    exact ⟨ret_bool (by simp), ((HB1.out.alloc s1 _).trans (HB2.out.mono (by rw [World.size_alloc]; omega))).alloc (by omega) _⟩
set_option maxHeartbeats 1000000 in
theorem rtoInt_none (a : Int) (w : World) (h0 : 0 ≤ a) (h1 : a < 4294967296) (na : isNone a = true) :
    Calls Try.prog 31 #[.int .i64 a] w fun e w' => e = .returned (.int .i64 0) ∧ Below w.heap.size w w' := by
  go_enter Try.func31, Try.ntmps31
  go_wp2_with fail
  refine (of_any _ _ h0 h1).mono ?_
  rintro e w1 ⟨rfl, hb1⟩
  unfold numV
  have s1 := hb1.size
  have HB1 : Hid _ := hb1
  clear hb1
  go_wp2_with fail
  go_ret
  exact ⟨rfl, HB1.out.alloc s1 _⟩
set_option maxHeartbeats 1000000 in
theorem rtoInt_inf (a : Int) (w : World) (h0 : 0 ≤ a) (h1 : a < 4294967296) (na : isNone a = false) (ia : isInf a = true) (s : Bool) (sa : isNeg a = s) :
    Calls Try.prog 31 #[.int .i64 a] w fun e w' => e = .returned (.int .i64 (ng s 2147483648)) ∧ Below w.heap.size w w' := by
  cases s
  all_goals
    unfold ng
    go_enter Try.func31, Try.ntmps31
    go_wp2_with fail
    refine (of_any _ _ h0 h1).mono ?_
    rintro e w1 ⟨rfl, hb1⟩
    unfold numV
    have s1 := hb1.size
    have HB1 : Hid _ := hb1
    clear hb1
    go_wp2_with fail
    go_ret
    exact ⟨rfl, HB1.out.alloc s1 _⟩
set_option maxHeartbeats 1000000 in
theorem rtoInt_far (a : Int) (w : World) (h0 : 0 ≤ a) (h1 : a < 4294967296) (na : isNone a = false) (ia : isInf a = false) (E2 : ofE a = exI a) (h8 : 8 < exI a) (s : Bool) (sa : isNeg a = s) :
    Calls Try.prog 31 #[.int .i64 a] w fun e w' => e = .returned (.int .i64 (ng s 2147483648)) ∧ Below w.heap.size w w' := by
  cases s
  all_goals
    unfold ng
    go_enter Try.func31, Try.ntmps31
    go_wp2_with fail
    refine (of_any _ _ h0 h1).mono ?_
    rintro e w1 ⟨rfl, hb1⟩
    unfold numV
    have s1 := hb1.size
    have HB1 : Hid _ := hb1
    clear hb1
    go_wp2_with fail
    go_ret
    exact ⟨rfl, HB1.out.alloc s1 _⟩
set_option maxHeartbeats 1000000 in
theorem rtoInt_mid (a : Int) (w : World) (h0 : 0 ≤ a) (h1 : a < 4294967296) (na : isNone a = false) (ia : isInf a = false) (E1 : ofM a = manI a) (E2 : ofE a = exI a) (h8 : exI a ≤ 8) (hn : 0 ≤ exI a) (s : Bool) (sa : isNeg a = s) :
    Calls Try.prog 31 #[.int .i64 a] w fun e w' => e = .returned (.int .i64 (ng s (min (manI a * 2 ^ (exI a).toNat) 2147483648))) ∧ Below w.heap.size w w' := by
  have m1 := manI_bd a
  obtain ⟨t1, t2, t3⟩ := shl_gap (manI a) (exI a) m1.1 m1.2 (by omega) (by omega)
  obtain ⟨P, hP⟩ : ∃ P, P = manI a * 2 ^ (exI a).toNat := ⟨_, rfl⟩
  rw [← hP] at t2 t3 ⊢
  have hP' := hP.symm
  clear hP t1
  by_cases hc : 2147483648 < P
  · rw [show min P 2147483648 = 2147483648 from by omega]
    cases s
    all_goals
      unfold ng
      go_enter Try.func31, Try.ntmps31
      go_wp2_with fail
      refine (of_any _ _ h0 h1).mono ?_
      rintro e w1 ⟨rfl, hb1⟩
      unfold numV
      have s1 := hb1.size
      have HB1 : Hid _ := hb1
      clear hb1
      go_wp2_with (first | (go_at_call 81; refine (nearest_up _ _ _ (by omega) (by omega) (by omega) (by omega)).mono ?_; rintro e w' ⟨rfl, rfl⟩))
      go_ret
      exact ⟨rfl, HB1.out.alloc s1 _⟩
  · rw [show min P 2147483648 = P from by omega]
    cases s
    all_goals
      unfold ng
      go_enter Try.func31, Try.ntmps31
      go_wp2_with fail
      refine (of_any _ _ h0 h1).mono ?_
      rintro e w1 ⟨rfl, hb1⟩
      unfold numV
      have s1 := hb1.size
      have HB1 : Hid _ := hb1
      clear hb1
      go_wp2_with (first | (go_at_call 81; refine (nearest_up _ _ _ (by omega) (by omega) (by omega) (by omega)).mono ?_; rintro e w' ⟨rfl, rfl⟩))
      go_ret
      exact ⟨rfl, HB1.out.alloc s1 _⟩
set_option maxHeartbeats 1000000 in
theorem rtoInt_near (a : Int) (w : World) (h0 : 0 ≤ a) (h1 : a < 4294967296) (na : isNone a = false) (ia : isInf a = false) (E1 : ofM a = manI a) (E2 : ofE a = exI a) (hn : exI a < 0) (s : Bool) (sa : isNeg a = s) :
    Calls Try.prog 31 #[.int .i64 a] w fun e w' => e = .returned (.int .i64 (ng s (rne (manI a).toNat (-exI a).toNat : Nat))) ∧ Below w.heap.size w w' := by
  have m1 := manI_bd a
  have x1 := exI_bd a
  have hr := WH_bd a
  rw [wh_near a hn] at hr
  obtain ⟨P, hP⟩ : ∃ P : Int, P = (rne (manI a).toNat (-exI a).toNat : Nat) := ⟨_, rfl⟩
  rw [← hP] at hr ⊢
  have hP' := hP.symm
  clear hP
  cases s
  all_goals
    unfold ng
    go_enter Try.func31, Try.ntmps31
    go_wp2_with fail
    refine (of_any _ _ h0 h1).mono ?_
    rintro e w1 ⟨rfl, hb1⟩
    unfold numV
    have s1 := hb1.size
    have HB1 : Hid _ := hb1
    clear hb1
    go_wp2_with (first | (go_at_call 81; refine (nearest_down _ _ _ (by omega) (by omega) (by omega) (by omega)).mono ?_; rintro e w' ⟨rfl, rfl⟩))
    go_ret
    exact ⟨rfl, HB1.out.alloc s1 _⟩
theorem rtoInt_any (a : Int) (w : World) (h0 : 0 ≤ a) (h1 : a < 4294967296) :
    Calls Try.prog 31 #[.int .i64 a] w fun e w' => e = .returned (.int .i64 (TOI a)) ∧ Below w.heap.size w w' := by
  have key : TOI a = if isNone a = true then 0 else ng (isNeg a) (WH (manI a) (exI a)) := by
    unfold TOI
    by_cases h : 2147483648 ≤ a
    · rw [if_pos h, isNeg_t h]; rfl
    · rw [if_neg h, isNeg_f h]; rfl
  rw [key]
  cases na : isNone a
  · rw [if_neg (by simp)]
    have n1 : ¬ 2139095040 < a % 2147483648 := by unfold isNone at na; simpa using na
    by_cases hi : a % 2147483648 = 2139095040
    · rw [wh_inf a hi]; exact rtoInt_inf a w h0 h1 na (isInf_t hi) _ rfl
    · have E1 := ofM_fin a (by omega)
      have E2 := ofE_fin a (by omega)
      by_cases h8 : 8 < exI a
      · rw [wh_far a h8]; exact rtoInt_far a w h0 h1 na (isInf_f hi) E2 h8 _ rfl
      · by_cases hn : exI a < 0
        · rw [wh_near a hn]; exact rtoInt_near a w h0 h1 na (isInf_f hi) E1 E2 hn _ rfl
        · rw [wh_mid a hn (by omega)]; exact rtoInt_mid a w h0 h1 na (isInf_f hi) E1 E2 (by omega) (by omega) _ rfl
  · rw [if_pos rfl]; exact rtoInt_none a w h0 h1 na
end Go.Proofs.Ytkncmjnakjkndaa
