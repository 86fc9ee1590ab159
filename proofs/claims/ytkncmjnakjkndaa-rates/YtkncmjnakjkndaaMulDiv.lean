/-
  What soft.Mul and soft.Div answer, for every two patterns: P3 of the document. No condition.
-/
import Derived.Test.YtkncmjnakjkndaaAdd
import Derived.Deep.QuietTactic
import Derived.BigQuiet
namespace Go.Proofs.Ytkncmjnakjkndaa
open Go.RowKit
set_option linter.unusedVariables false
set_option linter.unusedSimpArgs false
/-- P3 -/
def MUL (a b : Int) : Int :=
  if isNone a = true ∨ isNone b = true then 2143289344
  else if isInf a = true then (if isNil b = true then 2143289344 else sgn2 a b + 2139095040)
  else if isInf b = true then (if isNil a = true then 2143289344 else sgn2 a b + 2139095040)
  else sgn2 a b + RI (manI a * manI b) (exI a + exI b)
theorem sgn2_or (a b : Int) : sgn2 a b = 0 ∨ sgn2 a b = 2147483648 := by unfold sgn2; split <;> simp
theorem inf_not_nil {a : Int} (h : isInf a = true) : isNil a = false := by
  unfold isInf at h; unfold isNil
  have : a % 2147483648 = 2139095040 := by simpa using h
  rw [this]; rfl
theorem prod_bd (x y : Int) (hx : 0 ≤ x ∧ x < 16777216) (hy : 0 ≤ y ∧ y < 16777216) : 0 ≤ x * y ∧ x * y < 281474976710656 := by
  have := Int.mul_nonneg hx.1 hy.1
  have := Int.mul_le_mul (show x ≤ 16777215 by omega) (show y ≤ 16777215 by omega) hy.1 (by omega)
  omega
set_option maxHeartbeats 1000000 in
theorem mul_any (a b : Int) (w : World) (h0 : 0 ≤ a) (h1 : a < 4294967296) (g0 : 0 ≤ b) (g1 : b < 4294967296) :
    Calls Try.prog 21 #[.int .u32 a, .int .u32 b] w fun e w' => e = .returned (.int .u32 (MUL a b)) ∧ w' = w := by
  unfold MUL
  have sx := and_xor_sign a b h0 h1 g0 g1
  have so := sgn2_or a b
  have oi := or_sign (sgn2 a b) 2139095040 so (by omega) (by omega)
  cases na : isNone a
  · cases nb : isNone b
    · rw [if_neg (by simp)]
      cases ia : isInf a
      · rw [if_neg (by simp)]
        cases ib : isInf b
        · rw [if_neg (by simp)]
          have xa := exI_bd a
          have xb := exI_bd b
          have ma := manI_bd a
          have mb := manI_bd b
          have P := prod_bd (manI a) (manI b) ma mb
          have T := u64_small (manI a * manI b) P.1 (by omega)
          obtain ⟨M, hM⟩ : ∃ M, M = manI a * manI b := ⟨_, rfl⟩
          replace T := T.trans hM.symm
          rw [← hM] at P ⊢
          clear hM oi
          cases la : isNil a
          all_goals
            go_enter Try.func21, Try.ntmps21
            go_wp2_with (first | (go_at_call 59; refine (none_any _ _ (by assumption) (by assumption)).mono ?_; rintro e w' ⟨rfl, rfl⟩) | (go_at_call 60; refine (inf_any _ _ (by assumption) (by assumption)).mono ?_; rintro e w' ⟨rfl, rfl⟩) | (go_at_call 67; refine (nil_any _ _ (by assumption) (by assumption)).mono ?_; rintro e w' ⟨rfl, rfl⟩) | (go_at_call 68; refine (parts_any _ _ (by assumption) (by assumption)).mono ?_; rintro e w' ⟨rfl, rfl⟩) | (go_at_call 69; refine (rounded_any _ _ _ _ (by assumption) (by omega) (by omega) (by omega) (by omega)).mono ?_; rintro e w' ⟨rfl, rfl⟩))
            go_ret
            refine ⟨congrArg Ending.returned (congrArg (Value.int IntKind.u32) ?_), rfl⟩
            rfl
        · rw [if_pos rfl]
          cases la : isNil a
          · rw [if_neg (by simp)]
            go_enter Try.func21, Try.ntmps21
            go_wp2_with (first | (go_at_call 59; refine (none_any _ _ (by assumption) (by assumption)).mono ?_; rintro e w' ⟨rfl, rfl⟩) | (go_at_call 60; refine (inf_any _ _ (by assumption) (by assumption)).mono ?_; rintro e w' ⟨rfl, rfl⟩) | (go_at_call 67; refine (nil_any _ _ (by assumption) (by assumption)).mono ?_; rintro e w' ⟨rfl, rfl⟩))
            go_ret
            exact ⟨rfl, rfl⟩
          · rw [if_pos rfl]
            go_enter Try.func21, Try.ntmps21
            go_wp2_with (first | (go_at_call 59; refine (none_any _ _ (by assumption) (by assumption)).mono ?_; rintro e w' ⟨rfl, rfl⟩) | (go_at_call 60; refine (inf_any _ _ (by assumption) (by assumption)).mono ?_; rintro e w' ⟨rfl, rfl⟩) | (go_at_call 67; refine (nil_any _ _ (by assumption) (by assumption)).mono ?_; rintro e w' ⟨rfl, rfl⟩))
            go_ret
            exact ⟨rfl, rfl⟩
      · rw [if_pos rfl]
        have la := inf_not_nil ia
        cases lb : isNil b
        · rw [if_neg (by simp)]
          cases ib : isInf b
          all_goals
            go_enter Try.func21, Try.ntmps21
            go_wp2_with (first | (go_at_call 59; refine (none_any _ _ (by assumption) (by assumption)).mono ?_; rintro e w' ⟨rfl, rfl⟩) | (go_at_call 60; refine (inf_any _ _ (by assumption) (by assumption)).mono ?_; rintro e w' ⟨rfl, rfl⟩) | (go_at_call 67; refine (nil_any _ _ (by assumption) (by assumption)).mono ?_; rintro e w' ⟨rfl, rfl⟩))
            go_ret
            exact ⟨rfl, rfl⟩
        · rw [if_pos rfl]
          go_enter Try.func21, Try.ntmps21
          go_wp2_with (first | (go_at_call 59; refine (none_any _ _ (by assumption) (by assumption)).mono ?_; rintro e w' ⟨rfl, rfl⟩) | (go_at_call 60; refine (inf_any _ _ (by assumption) (by assumption)).mono ?_; rintro e w' ⟨rfl, rfl⟩) | (go_at_call 67; refine (nil_any _ _ (by assumption) (by assumption)).mono ?_; rintro e w' ⟨rfl, rfl⟩))
          go_ret
          exact ⟨rfl, rfl⟩
    · rw [if_pos (by simp)]
      go_enter Try.func21, Try.ntmps21
      go_wp2_with (first | (go_at_call 59; refine (none_any _ _ (by assumption) (by assumption)).mono ?_; rintro e w' ⟨rfl, rfl⟩) | (go_at_call 60; refine (inf_any _ _ (by assumption) (by assumption)).mono ?_; rintro e w' ⟨rfl, rfl⟩) | (go_at_call 67; refine (nil_any _ _ (by assumption) (by assumption)).mono ?_; rintro e w' ⟨rfl, rfl⟩))
      go_ret
      exact ⟨rfl, rfl⟩
  · rw [if_pos (by simp)]
    go_enter Try.func21, Try.ntmps21
    go_wp2_with (first | (go_at_call 59; refine (none_any _ _ (by assumption) (by assumption)).mono ?_; rintro e w' ⟨rfl, rfl⟩) | (go_at_call 60; refine (inf_any _ _ (by assumption) (by assumption)).mono ?_; rintro e w' ⟨rfl, rfl⟩) | (go_at_call 67; refine (nil_any _ _ (by assumption) (by assumption)).mono ?_; rintro e w' ⟨rfl, rfl⟩))
    go_ret
    exact ⟨rfl, rfl⟩
/-- a quotient of two finite numbers that are not noughts -/
def upI (a : Int) : Int := 64 - bl (manI a).toNat
def topI (a : Int) : Int := manI a * 2 ^ (upI a).toNat
def DQ (a b : Int) : Int := RI (stick (topI a / manI b) (topI a % manI b)) (exI a - upI a - exI b)
theorem bl_man (a : Int) : bl (manI a).toNat ≤ 24 := by
  have := manI_bd a
  by_cases hz : (manI a).toNat = 0
  · rw [hz]; decide
  · have h2 := bl_le _ hz
    have h3 : 2 ^ (bl (manI a).toNat - 1) < 2 ^ 24 := by omega
    have := (Nat.pow_lt_pow_iff_right (by decide : 1 < 2)).1 h3
    omega
theorem upI_bd (a : Int) : 40 ≤ upI a ∧ upI a ≤ 64 := by
  have := bl_man a
  unfold upI
  omega
theorem topI_bd (a : Int) (h : manI a ≠ 0) : 9223372036854775808 ≤ topI a ∧ topI a < 18446744073709551616 := by
  have hm := manI_bd a
  have hu := upI_bd a
  unfold topI
  obtain ⟨n, hn⟩ : ∃ n : Nat, manI a = n := ⟨(manI a).toNat, by omega⟩
  have e : (n : Int) * 2 ^ (upI a).toNat = ((n * 2 ^ (upI a).toNat : Nat) : Int) := by push_cast; rfl
  have hb : upI a = 64 - bl n := by unfold upI; rw [hn, Int.toNat_natCast]
  have h1 := bl_lt n
  have h2 := bl_le n (by omega)
  rw [hn, e]
  have hp := pow_pos' (upI a).toNat
  have a1 := Nat.mul_lt_mul_of_pos_right h1 hp
  have a2 := Nat.mul_le_mul_right (2 ^ (upI a).toNat) h2
  rw [← Nat.pow_add] at a1 a2
  have hbl : bl n ≠ 0 := by unfold bl; split <;> omega
  rw [show bl n + (upI a).toNat = 64 from by omega] at a1
  rw [show bl n - 1 + (upI a).toNat = 63 from by omega] at a2
  omega
theorem stick_bd (q r : Int) (h : 0 ≤ q) (h' : q < 18446744073709551616) : 0 ≤ stick q r ∧ stick q r < 18446744073709551616 := by unfold stick; split <;> (try split) <;> omega
theorem i64_small (x : Int) (h0 : -9223372036854775808 ≤ x) (h1 : x ≤ 9223372036854775807) : IntKind.i64.wrap x = x := by rw [IntKind.wrap_i64]; omega
set_option maxHeartbeats 1000000 in
theorem quotient_any (s a b : Int) (w : World) (hs : s = 0 ∨ s = 2147483648) (h0 : 0 ≤ a) (h1 : a < 4294967296) (g0 : 0 ≤ b) (g1 : b < 4294967296) (ma : manI a ≠ 0) (mb : manI b ≠ 0) :
    Calls Try.prog 70 #[.int .u32 s, .int .u32 a, .int .u32 b] w fun e w' => e = .returned (.int .u32 (s + DQ a b)) ∧ ∃ n, w' = w.drewN n := by
  unfold DQ
  have xa := exI_bd a
  have xb := exI_bd b
  have m1 := manI_bd a
  have m2 := manI_bd b
  have hu := upI_bd a
  have hbl := bl_man a
  have ht := topI_bd a ma
  have T : IntKind.u64.wrap (manI a * 2 ^ (64 - bl (manI a).toNat)) = topI a := by
    have e : topI a = manI a * 2 ^ (64 - bl (manI a).toNat) := by unfold topI upI; rw [show (64 - (bl (manI a).toNat : Int)).toNat = 64 - bl (manI a).toNat from by omega]
    rw [← e]; exact u64_small (topI a) (by omega) (by omega)
  have hq0 : 0 ≤ topI a / manI b := Int.ediv_nonneg (by omega) (by omega)
  have hq1 : topI a / manI b ≤ topI a := Int.ediv_le_self _ (by omega)
  have hr0 : 0 ≤ topI a % manI b := Int.emod_nonneg _ (by omega)
  have hr1 : topI a % manI b < manI b := Int.emod_lt_of_pos _ (by omega)
  have ho := or_bit (topI a / manI b) (topI a % manI b) hq0 (by omega) hr0
  have hst := stick_bd (topI a / manI b) (topI a % manI b) hq0 (by omega)
  have e1 : (topI a).tdiv (manI b) = topI a / manI b := Int.tdiv_eq_ediv_of_nonneg (by omega)
  have e2 : (topI a).tmod (manI b) = topI a % manI b := Int.tmod_eq_emod_of_nonneg (by omega)
  have mp : 0 < manI b := by omega
  have e3 := u64_small (topI a / manI b) hq0 (by omega)
  have e4 : upI a = 64 - bl (manI a).toNat := rfl
  have e5 := i64_small (exI a - (64 - (bl (manI a).toNat : Int))) (by omega) (by omega)
  have e6 := i64_small (exI a - (64 - (bl (manI a).toNat : Int)) - exI b) (by omega) (by omega)
  go_enter Try.func70, Try.ntmps70
  go_wp2_with (first | (go_at_call 68; refine (parts_any _ _ (by assumption) (by assumption)).mono ?_; rintro e w' ⟨rfl, rfl⟩) | (go_at_call 74; refine (lz64_any _ _ (by omega) (by omega)).mono ?_; rintro e w' ⟨rfl, rfl⟩))
  go_quiet (first | (go_at_call 76; exact Calls.quiet_of_same (sticky_any _ _ (by omega) (by omega))) | (go_at_call 69; exact Calls.quiet_of_same (rounded_any _ _ _ _ hs (by omega) (by omega) (by omega) (by omega))))
  go_wp2
  go_ret
  exact ⟨congrArg Ending.returned (congrArg (Value.int IntKind.u32) rfl), _, rfl⟩
/-- P3 -/
def DIV (a b : Int) : Int :=
  if isNone a = true ∨ isNone b = true then 2143289344
  else if isInf a = true then (if isInf b = true then 2143289344 else sgn2 a b + 2139095040)
  else if isNil b = true then (if isNil a = true then 2143289344 else sgn2 a b + 2139095040)
  else if isInf b = true ∨ isNil a = true then sgn2 a b
  else sgn2 a b + DQ a b
theorem man_of_nil {a : Int} (h : isNil a = false) (h' : isNone a = false) : manI a ≠ 0 := by
  have : ¬ a % 2147483648 = 0 := by unfold isNil at h; simpa using h
  unfold manI; split <;> omega
set_option maxHeartbeats 1000000 in
theorem div_any (a b : Int) (w : World) (h0 : 0 ≤ a) (h1 : a < 4294967296) (g0 : 0 ≤ b) (g1 : b < 4294967296) :
    Calls Try.prog 22 #[.int .u32 a, .int .u32 b] w fun e w' => e = .returned (.int .u32 (DIV a b)) ∧ ∃ n, w' = w.drewN n := by
  unfold DIV
  have sx := and_xor_sign a b h0 h1 g0 g1
  have so := sgn2_or a b
  have oi := or_sign (sgn2 a b) 2139095040 so (by omega) (by omega)
  cases na : isNone a
  · cases nb : isNone b
    · rw [if_neg (by simp)]
      cases ia : isInf a
      · rw [if_neg (by simp)]
        cases lb : isNil b
        · rw [if_neg (by simp)]
          cases ib : isInf b
          · cases la : isNil a
            · rw [if_neg (by simp)]
              have ma := man_of_nil la na
              have mb := man_of_nil lb nb
              clear oi
              have MA : Hid _ := ma
              have MB : Hid _ := mb
              clear ma mb
              go_enter Try.func22, Try.ntmps22
              go_wp2_with (first | (go_at_call 59; refine (none_any _ _ (by assumption) (by assumption)).mono ?_; rintro e w' ⟨rfl, rfl⟩) | (go_at_call 60; refine (inf_any _ _ (by assumption) (by assumption)).mono ?_; rintro e w' ⟨rfl, rfl⟩) | (go_at_call 67; refine (nil_any _ _ (by assumption) (by assumption)).mono ?_; rintro e w' ⟨rfl, rfl⟩) | (go_at_call 70; refine (quotient_any _ _ _ _ (by assumption) (by assumption) (by assumption) (by assumption) (by assumption) MA.out MB.out).mono ?_; rintro e w' ⟨rfl, n, rfl⟩))
              go_ret
              refine ⟨congrArg Ending.returned (congrArg (Value.int IntKind.u32) ?_), _, rfl⟩
              rfl
            · rw [if_pos (by simp)]
              go_enter Try.func22, Try.ntmps22
              go_wp2_with (first | (go_at_call 59; refine (none_any _ _ (by assumption) (by assumption)).mono ?_; rintro e w' ⟨rfl, rfl⟩) | (go_at_call 60; refine (inf_any _ _ (by assumption) (by assumption)).mono ?_; rintro e w' ⟨rfl, rfl⟩) | (go_at_call 67; refine (nil_any _ _ (by assumption) (by assumption)).mono ?_; rintro e w' ⟨rfl, rfl⟩))
              go_ret
              exact ⟨rfl, 0, rfl⟩
          · rw [if_pos (by simp)]
            cases la : isNil a
            all_goals
              go_enter Try.func22, Try.ntmps22
              go_wp2_with (first | (go_at_call 59; refine (none_any _ _ (by assumption) (by assumption)).mono ?_; rintro e w' ⟨rfl, rfl⟩) | (go_at_call 60; refine (inf_any _ _ (by assumption) (by assumption)).mono ?_; rintro e w' ⟨rfl, rfl⟩) | (go_at_call 67; refine (nil_any _ _ (by assumption) (by assumption)).mono ?_; rintro e w' ⟨rfl, rfl⟩))
              go_ret
              exact ⟨rfl, 0, rfl⟩
        · rw [if_pos rfl]
          cases la : isNil a
          · rw [if_neg (by simp)]
            go_enter Try.func22, Try.ntmps22
            go_wp2_with (first | (go_at_call 59; refine (none_any _ _ (by assumption) (by assumption)).mono ?_; rintro e w' ⟨rfl, rfl⟩) | (go_at_call 60; refine (inf_any _ _ (by assumption) (by assumption)).mono ?_; rintro e w' ⟨rfl, rfl⟩) | (go_at_call 67; refine (nil_any _ _ (by assumption) (by assumption)).mono ?_; rintro e w' ⟨rfl, rfl⟩))
            go_ret
            exact ⟨rfl, 0, rfl⟩
          · rw [if_pos rfl]
            go_enter Try.func22, Try.ntmps22
            go_wp2_with (first | (go_at_call 59; refine (none_any _ _ (by assumption) (by assumption)).mono ?_; rintro e w' ⟨rfl, rfl⟩) | (go_at_call 60; refine (inf_any _ _ (by assumption) (by assumption)).mono ?_; rintro e w' ⟨rfl, rfl⟩) | (go_at_call 67; refine (nil_any _ _ (by assumption) (by assumption)).mono ?_; rintro e w' ⟨rfl, rfl⟩))
            go_ret
            exact ⟨rfl, 0, rfl⟩
      · rw [if_pos rfl]
        have la := inf_not_nil ia
        cases ib : isInf b
        · rw [if_neg (by simp)]
          go_enter Try.func22, Try.ntmps22
          go_wp2_with (first | (go_at_call 59; refine (none_any _ _ (by assumption) (by assumption)).mono ?_; rintro e w' ⟨rfl, rfl⟩) | (go_at_call 60; refine (inf_any _ _ (by assumption) (by assumption)).mono ?_; rintro e w' ⟨rfl, rfl⟩) | (go_at_call 67; refine (nil_any _ _ (by assumption) (by assumption)).mono ?_; rintro e w' ⟨rfl, rfl⟩))
          go_ret
          exact ⟨rfl, 0, rfl⟩
        · rw [if_pos rfl]
          go_enter Try.func22, Try.ntmps22
          go_wp2_with (first | (go_at_call 59; refine (none_any _ _ (by assumption) (by assumption)).mono ?_; rintro e w' ⟨rfl, rfl⟩) | (go_at_call 60; refine (inf_any _ _ (by assumption) (by assumption)).mono ?_; rintro e w' ⟨rfl, rfl⟩) | (go_at_call 67; refine (nil_any _ _ (by assumption) (by assumption)).mono ?_; rintro e w' ⟨rfl, rfl⟩))
          go_ret
          exact ⟨rfl, 0, rfl⟩
    · rw [if_pos (by simp)]
      go_enter Try.func22, Try.ntmps22
      go_wp2_with (first | (go_at_call 59; refine (none_any _ _ (by assumption) (by assumption)).mono ?_; rintro e w' ⟨rfl, rfl⟩) | (go_at_call 60; refine (inf_any _ _ (by assumption) (by assumption)).mono ?_; rintro e w' ⟨rfl, rfl⟩) | (go_at_call 67; refine (nil_any _ _ (by assumption) (by assumption)).mono ?_; rintro e w' ⟨rfl, rfl⟩))
      go_ret
      exact ⟨rfl, 0, rfl⟩
  · rw [if_pos (by simp)]
    go_enter Try.func22, Try.ntmps22
    go_wp2_with (first | (go_at_call 59; refine (none_any _ _ (by assumption) (by assumption)).mono ?_; rintro e w' ⟨rfl, rfl⟩) | (go_at_call 60; refine (inf_any _ _ (by assumption) (by assumption)).mono ?_; rintro e w' ⟨rfl, rfl⟩) | (go_at_call 67; refine (nil_any _ _ (by assumption) (by assumption)).mono ?_; rintro e w' ⟨rfl, rfl⟩))
    go_ret
    exact ⟨rfl, 0, rfl⟩
end Go.Proofs.Ytkncmjnakjkndaa
