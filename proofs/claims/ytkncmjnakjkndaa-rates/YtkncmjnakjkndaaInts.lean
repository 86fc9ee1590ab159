/-
  What soft.Less, soft.FromInt and soft.ToInt answer: P4 of the document. No condition.
-/
import Derived.Test.YtkncmjnakjkndaaMulDiv
import Derived.Test.YtkncmjnakjkndaaMath5
namespace Go.Proofs.Ytkncmjnakjkndaa
open Go.RowKit
set_option linter.unusedVariables false
set_option linter.unusedSimpArgs false
/-- where a number stands among all of them -/
def plc (a : Int) : Int := if 2147483648 ≤ a then -(a % 2147483648) else a
set_option maxHeartbeats 400000 in
theorem place_any (a : Int) (w : World) (h0 : 0 ≤ a) (h1 : a < 4294967296) :
    Calls Try.prog 77 #[.int .u32 a] w fun e w' => e = .returned (.int .i64 (plc a)) ∧ w' = w := by
  have s1 := and_sign a h0 h1
  unfold plc
  by_cases h : 2147483648 ≤ a
  · have e1 : a / 2147483648 * 2147483648 = 2147483648 := by omega
    rw [e1] at s1
    rw [if_pos h]
    clear e1
    go_enter Try.func77, Try.ntmps77
    go_wp2_with (first | (go_at_call 116; refine (size_any _ _ h0 h1).mono ?_; rintro e w' ⟨rfl, rfl⟩))
    go_ret
    exact ⟨rfl, rfl⟩
  · have e1 : a / 2147483648 * 2147483648 = 0 := by omega
    rw [e1] at s1
    rw [if_neg h]
    clear e1
    go_enter Try.func77, Try.ntmps77
    go_wp2_with (first | (go_at_call 116; refine (size_any _ _ h0 h1).mono ?_; rintro e w' ⟨rfl, rfl⟩))
    go_ret
    exact ⟨rfl, rfl⟩
/-- P4 -/
def LESS (a b : Int) : Bool := !isNone a && !isNone b && decide (plc a < plc b)
set_option maxHeartbeats 400000 in
theorem less_any (a b : Int) (w : World) (h0 : 0 ≤ a) (h1 : a < 4294967296) (g0 : 0 ≤ b) (g1 : b < 4294967296) :
    Calls Try.prog 26 #[.int .u32 a, .int .u32 b] w fun e w' => e = .returned (.bool (LESS a b)) ∧ w' = w := by
  unfold LESS
  cases na : isNone a <;> cases nb : isNone b
  all_goals
    go_enter Try.func26, Try.ntmps26
    go_wp2_with (first | (go_at_call 59; refine (none_any _ _ (by assumption) (by assumption)).mono ?_; rintro e w' ⟨rfl, rfl⟩) | (go_at_call 77; refine (place_any _ _ (by assumption) (by assumption)).mono ?_; rintro e w' ⟨rfl, rfl⟩))
    go_ret
    exact ⟨ret_bool (by simp), rfl⟩
/-- P4 -/
def FROMI (n : Int) : Int := if n < 0 then 2147483648 + RI (-n) 0 else RI n 0
theorem neg_wrap (n : Int) (h0 : -9223372036854775808 ≤ n) (h : n < 0) : IntKind.u64.wrap (-IntKind.u64.wrap n) = -n := by
  rw [IntKind.wrap_u64, IntKind.wrap_u64]; omega
set_option maxHeartbeats 400000 in
theorem fromInt_any (n : Int) (w : World) (h0 : -9223372036854775808 ≤ n) (h1 : n ≤ 9223372036854775807) :
    Calls Try.prog 28 #[.int .i64 n] w fun e w' => e = .returned (.int .u32 (FROMI n)) ∧ w' = w := by
  unfold FROMI
  by_cases h : n < 0
  · rw [if_pos h]
    have t := neg_wrap n h0 h
    go_enter Try.func28, Try.ntmps28
    go_wp2_with (first | (go_at_call 69; refine (rounded_any _ _ _ _ (by omega) (by omega) (by omega) (by omega) (by omega)).mono ?_; rintro e w' ⟨rfl, rfl⟩))
    go_ret
    exact ⟨rfl, rfl⟩
  · rw [if_neg h]
    go_enter Try.func28, Try.ntmps28
    go_wp2_with (first | (go_at_call 69; refine (rounded_any _ _ _ _ (by omega) (by omega) (by omega) (by omega) (by omega)).mono ?_; rintro e w' ⟨rfl, rfl⟩))
    go_ret
    exact ⟨ret_int (by omega), rfl⟩
theorem pow_bd0 (m : Int) (j : Nat) (h0 : 0 ≤ m) : 0 ≤ m * 2 ^ j := Int.mul_nonneg h0 (Int.le_of_lt (pos_pow j))
/-- the whole number nearest to m times 2^e, at most 2^31 -/
def WH (m e : Int) : Int := if e < 0 then (rne m.toNat (-e).toNat : Nat) else min (m * 2 ^ (min e 8).toNat) 2147483648
set_option maxHeartbeats 400000 in
theorem whole_any (a : Int) (w : World) (h0 : 0 ≤ a) (h1 : a < 4294967296) (ha : a % 2147483648 ≤ 2139095040) :
    Calls Try.prog 78 #[.int .u32 a] w fun e w' => e = .returned (.int .i64 (WH (manI a) (exI a))) ∧ w' = w := by
  have m1 := manI_bd a
  have x1 := exI_bd a
  unfold WH
  by_cases h : exI a < 0
  · rw [if_pos h]
    have hr : rne (manI a).toNat (-exI a).toNat ≤ 16777216 := by
      apply rne_le
      have := pow_pos' (-exI a).toNat
      refine Nat.lt_of_lt_of_le (show (manI a).toNat < 16777216 by omega) ?_
      omega
    go_enter Try.func78, Try.ntmps78
    go_wp2_with (first | (go_at_call 68; refine (parts_any _ _ (by assumption) (by assumption)).mono ?_; rintro e w' ⟨rfl, rfl⟩) | (go_at_call 118; refine (shifted_any _ _ _ (by omega) (by omega) (by omega)).mono ?_; rintro e w' ⟨rfl, rfl⟩))
    go_ret
    exact ⟨rfl, rfl⟩
  · rw [if_neg h]
    by_cases h8 : 8 < exI a
    · have T := u64_small (manI a * 256) (by omega) (by omega)
      have e8 : (min (exI a) 8).toNat = 8 := by omega
      rw [e8, show (2 : Int) ^ 8 = 256 from rfl]
      clear e8
      go_enter Try.func78, Try.ntmps78
      go_wp2_with (first | (go_at_call 68; refine (parts_any _ _ (by assumption) (by assumption)).mono ?_; rintro e w' ⟨rfl, rfl⟩))
      all_goals (go_ret; refine ⟨congrArg Ending.returned (congrArg (Value.int IntKind.i64) ?_), rfl⟩)
      all_goals first | omega | (rw [w64 _ (by omega)]; omega)
    · have e8 : (min (exI a) 8).toNat = (exI a).toNat := by omega
      rw [e8]
      clear e8
      obtain ⟨t1, t2, t3⟩ := shl_gap (manI a) (exI a) m1.1 m1.2 (by omega) (by omega)
      obtain ⟨P, hP⟩ : ∃ P, P = manI a * 2 ^ (exI a).toNat := ⟨_, rfl⟩
      replace t1 := t1.trans hP.symm
      rw [← hP] at t2 t3 ⊢
      clear hP
      go_enter Try.func78, Try.ntmps78
      go_wp2_with (first | (go_at_call 68; refine (parts_any _ _ (by assumption) (by assumption)).mono ?_; rintro e w' ⟨rfl, rfl⟩))
      all_goals (go_ret; refine ⟨congrArg Ending.returned (congrArg (Value.int IntKind.i64) ?_), rfl⟩)
      all_goals first | omega | (rw [w64 _ (by omega)]; omega)
/-- P4 -/
def TOI (a : Int) : Int := if isNone a = true then 0 else if 2147483648 ≤ a then -WH (manI a) (exI a) else WH (manI a) (exI a)
theorem WH_bd (a : Int) : 0 ≤ WH (manI a) (exI a) ∧ WH (manI a) (exI a) ≤ 2147483648 := by
  have m1 := manI_bd a
  unfold WH
  split
  · have hr : rne (manI a).toNat (-exI a).toNat ≤ 16777216 := by
      apply rne_le
      have := pow_pos' (-exI a).toNat
      refine Nat.lt_of_lt_of_le (show (manI a).toNat < 16777216 by omega) ?_
      omega
    omega
  · have := (pow_bd0 (manI a) (min (exI a) 8).toNat m1.1)
    omega
set_option maxHeartbeats 400000 in
theorem toInt_any (a : Int) (w : World) (h0 : 0 ≤ a) (h1 : a < 4294967296) :
    Calls Try.prog 27 #[.int .u32 a] w fun e w' => e = .returned (.int .i64 (TOI a)) ∧ w' = w := by
  unfold TOI
  have s1 := and_sign a h0 h1
  have hw := WH_bd a
  cases na : isNone a
  · have n1 : ¬ 2139095040 < a % 2147483648 := by unfold isNone at na; simpa using na
    have n2 : a % 2147483648 ≤ 2139095040 := by omega
    clear n1
    rw [if_neg (by simp)]
    generalize hW : WH (manI a) (exI a) = W at *
    by_cases h : 2147483648 ≤ a
    · have e1 : a / 2147483648 * 2147483648 = 2147483648 := by omega
      rw [e1] at s1
      rw [if_pos h]
      clear e1
      go_enter Try.func27, Try.ntmps27
      go_wp2_with (first | (go_at_call 59; refine (none_any _ _ (by assumption) (by assumption)).mono ?_; rintro e w' ⟨rfl, rfl⟩) | (go_at_call 78; refine (whole_any _ _ (by assumption) (by assumption) (by assumption)).mono ?_; rintro e w' ⟨rfl, rfl⟩))
      go_ret
      exact ⟨rfl, rfl⟩
    · have e1 : a / 2147483648 * 2147483648 = 0 := by omega
      rw [e1] at s1
      rw [if_neg h]
      clear e1
      go_enter Try.func27, Try.ntmps27
      go_wp2_with (first | (go_at_call 59; refine (none_any _ _ (by assumption) (by assumption)).mono ?_; rintro e w' ⟨rfl, rfl⟩) | (go_at_call 78; refine (whole_any _ _ (by assumption) (by assumption) (by assumption)).mono ?_; rintro e w' ⟨rfl, rfl⟩))
      go_ret
      exact ⟨rfl, rfl⟩
  · rw [if_pos rfl]
    go_enter Try.func27, Try.ntmps27
    go_wp2_with (first | (go_at_call 59; refine (none_any _ _ (by assumption) (by assumption)).mono ?_; rintro e w' ⟨rfl, rfl⟩))
    go_ret
    exact ⟨rfl, rfl⟩
end Go.Proofs.Ytkncmjnakjkndaa
