/-
  What soft.rounded answers: the pattern that a whole number times a power of 2 rounds to, with its sign. Conditions: the whole number fits uint64, the power is -900 to 900.
-/
import Derived.Test.YtnkgfoabadjboaaSoft
namespace Go.Proofs.Ytnkgfoabadjboaa
open Go.RowKit
theorem rne_bd (m d : Int) (h : (bl m.toNat : Int) - 24 ≤ d) : rne m.toNat d.toNat ≤ 16777216 := by
  apply rne_le
  refine Nat.lt_of_lt_of_le (bl_lt m.toNat) ?_
  rw [show (16777216 : Nat) = 2 ^ 24 from rfl, ← Nat.pow_add]
  exact Nat.pow_le_pow_right (by decide) (by omega)
theorem lift_wrap (m d : Int) (h0 : 0 ≤ m) (h : m.toNat * 2 ^ (-d).toNat < 16777216) : IntKind.u64.wrap (m * 2 ^ (-d).toNat) = ((m.toNat * 2 ^ (-d).toNat : Nat) : Int) := by
  have e : m * 2 ^ (-d).toNat = ((m.toNat * 2 ^ (-d).toNat : Nat) : Int) := by
    rw [pow_cast, Int.natCast_mul, Int.toNat_of_nonneg h0]
  rw [e, u64_small _ (by omega) (by omega)]
set_option maxHeartbeats 1000000 in
theorem rounded_1 (s m p : Int) (w : World) (hs : s = 0 ∨ s = 2147483648) (h0 : 0 ≤ m) (h1 : m < 18446744073709551616) (h2 : -900 ≤ p) (h3 : p ≤ 900)
    (hA : (bl m.toNat : Int) - 24 < -149 - p) (hd : 0 < -149 - p) :
    Calls Try.prog 69 #[.int .u32 s, .int .u64 m, .int .i64 p] w fun e w' => e = .returned (.int .u32 (s + RI m p)) ∧ w' = w := by
  have hb := bl_le64 m h0 h1
  obtain ⟨k1, k2⟩ := RI_drop m p (-149 - p) hd (by omega) (by omega) (.inr rfl) h2
  have hr := rne_bd m (-149 - p) (by omega)
  by_cases hz : rne m.toNat (-149 - p).toNat = 0
  · rw [k2 hz]
    clear k1 k2
    go_enter Try.func69, Try.ntmps69
    go_wp2_with (first | (go_at_call 117; refine (len64_any _ _ h0 h1).mono ?_; rintro e w' ⟨rfl, rfl⟩) | (go_at_call 118; refine (shifted_any _ _ _ (by assumption) (by assumption) (by omega)).mono ?_; rintro e w' ⟨rfl, rfl⟩))
    go_ret
    exact ⟨ret_int (by omega), rfl⟩
  · rw [k1]
    have hz' : ((rne m.toNat (-149 - p).toNat : Int) == 0) = false := by simpa using hz
    clear k1 k2 hz
    go_enter Try.func69, Try.ntmps69
    go_wp2_with (first | (go_at_call 117; refine (len64_any _ _ h0 h1).mono ?_; rintro e w' ⟨rfl, rfl⟩) | (go_at_call 118; refine (shifted_any _ _ _ (by assumption) (by assumption) (by omega)).mono ?_; rintro e w' ⟨rfl, rfl⟩))
    all_goals (go_ret; refine ⟨congrArg Ending.returned (congrArg (Value.int IntKind.u32) ?_), rfl⟩; rw [or_sign s _ hs (by omega) (by omega)]; omega)
set_option maxHeartbeats 1000000 in
theorem rounded_2 (s m p : Int) (w : World) (hs : s = 0 ∨ s = 2147483648) (h0 : 0 ≤ m) (h1 : m < 18446744073709551616) (h2 : -900 ≤ p) (h3 : p ≤ 900)
    (hA : ¬ (bl m.toNat : Int) - 24 < -149 - p) (hd : 0 < (bl m.toNat : Int) - 24) :
    Calls Try.prog 69 #[.int .u32 s, .int .u64 m, .int .i64 p] w fun e w' => e = .returned (.int .u32 (s + RI m p)) ∧ w' = w := by
  have hb := bl_le64 m h0 h1
  obtain ⟨k1, k2⟩ := RI_drop m p (bl m.toNat - 24) hd (by omega) (by omega) (.inl rfl) h2
  have hr := rne_bd m (bl m.toNat - 24) (by omega)
  rw [show ((bl m.toNat : Int) - 24).toNat = bl m.toNat - 24 from by omega] at k1 k2 hr
  by_cases hz : rne m.toNat (bl m.toNat - 24) = 0
  · rw [k2 hz]
    clear k1 k2
    go_enter Try.func69, Try.ntmps69
    go_wp2_with (first | (go_at_call 117; refine (len64_any _ _ h0 h1).mono ?_; rintro e w' ⟨rfl, rfl⟩) | (go_at_call 118; refine (shifted_any _ _ _ (by assumption) (by assumption) (by omega)).mono ?_; rintro e w' ⟨rfl, rfl⟩))
    go_ret
    exact ⟨ret_int (by omega), rfl⟩
  · rw [k1]
    have hz' : ((rne m.toNat (bl m.toNat - 24) : Int) == 0) = false := by simpa using hz
    clear k1 k2 hz
    go_enter Try.func69, Try.ntmps69
    go_wp2_with (first | (go_at_call 117; refine (len64_any _ _ h0 h1).mono ?_; rintro e w' ⟨rfl, rfl⟩) | (go_at_call 118; refine (shifted_any _ _ _ (by assumption) (by assumption) (by omega)).mono ?_; rintro e w' ⟨rfl, rfl⟩))
    all_goals (go_ret; refine ⟨congrArg Ending.returned (congrArg (Value.int IntKind.u32) ?_), rfl⟩; rw [or_sign s _ hs (by omega) (by omega)]; omega)
set_option maxHeartbeats 1000000 in
theorem rounded_3 (s m p : Int) (w : World) (hs : s = 0 ∨ s = 2147483648) (h0 : 0 ≤ m) (h1 : m < 18446744073709551616) (h2 : -900 ≤ p) (h3 : p ≤ 900)
    (hA : (bl m.toNat : Int) - 24 < -149 - p) (hd : ¬ 0 < -149 - p) (hm : m.toNat ≠ 0) :
    Calls Try.prog 69 #[.int .u32 s, .int .u64 m, .int .i64 p] w fun e w' => e = .returned (.int .u32 (s + RI m p)) ∧ w' = w := by
  have hb := bl_le64 m h0 h1
  obtain ⟨k1, k2⟩ := RI_lift m p (-149 - p) (by omega) (by omega) (by omega) (.inr rfl) hm h2
  have e := lift_wrap m (-149 - p) h0 k2
  have hz : m.toNat * 2 ^ (-(-149 - p)).toNat ≠ 0 := Nat.mul_ne_zero hm (Nat.pos_iff_ne_zero.1 (pow_pos' _))
  rw [k1]
  clear k1
  generalize m.toNat * 2 ^ (-(-149 - p)).toNat = q at *
  have hz' : ((q : Int) == 0) = false := by simpa using hz
  go_enter Try.func69, Try.ntmps69
  go_wp2_with (first | (go_at_call 117; refine (len64_any _ _ h0 h1).mono ?_; rintro e w' ⟨rfl, rfl⟩))
  all_goals (go_ret; refine ⟨congrArg Ending.returned (congrArg (Value.int IntKind.u32) ?_), rfl⟩; rw [or_sign s _ hs (by omega) (by omega)]; omega)
set_option maxHeartbeats 1000000 in
theorem rounded_4 (s m p : Int) (w : World) (hs : s = 0 ∨ s = 2147483648) (h0 : 0 ≤ m) (h1 : m < 18446744073709551616) (h2 : -900 ≤ p) (h3 : p ≤ 900)
    (hA : ¬ (bl m.toNat : Int) - 24 < -149 - p) (hd : ¬ 0 < (bl m.toNat : Int) - 24) (hm : m.toNat ≠ 0) :
    Calls Try.prog 69 #[.int .u32 s, .int .u64 m, .int .i64 p] w fun e w' => e = .returned (.int .u32 (s + RI m p)) ∧ w' = w := by
  have hb := bl_le64 m h0 h1
  obtain ⟨k1, k2⟩ := RI_lift m p (bl m.toNat - 24) (by omega) (by omega) (by omega) (.inl rfl) hm h2
  have e := lift_wrap m (bl m.toNat - 24) h0 k2
  have hz : m.toNat * 2 ^ (-((bl m.toNat : Int) - 24)).toNat ≠ 0 := Nat.mul_ne_zero hm (Nat.pos_iff_ne_zero.1 (pow_pos' _))
  rw [k1]
  clear k1
  generalize m.toNat * 2 ^ (-((bl m.toNat : Int) - 24)).toNat = q at *
  have hz' : ((q : Int) == 0) = false := by simpa using hz
  go_enter Try.func69, Try.ntmps69
  go_wp2_with (first | (go_at_call 117; refine (len64_any _ _ h0 h1).mono ?_; rintro e w' ⟨rfl, rfl⟩))
  all_goals (go_ret; refine ⟨congrArg Ending.returned (congrArg (Value.int IntKind.u32) ?_), rfl⟩; rw [or_sign s _ hs (by omega) (by omega)]; omega)
theorem zero_wrap (x : Nat) : IntKind.u64.wrap (0 * 2 ^ x) = 0 := by rw [Int.zero_mul]; rfl
set_option maxHeartbeats 1000000 in
theorem rounded_5 (s p : Int) (w : World) (hd : -149 ≤ p) (h3 : p ≤ 900) :
    Calls Try.prog 69 #[.int .u32 s, .int .u64 0, .int .i64 p] w fun e w' => e = .returned (.int .u32 (s + RI 0 p)) ∧ w' = w := by
  rw [RI_zero]
  have hb : bl 0 = 0 := rfl
  by_cases hA : (-24 : Int) < -149 - p
  all_goals
    go_enter Try.func69, Try.ntmps69
    go_wp2_with (first | (go_at_call 117; refine (len64_any _ _ (by omega) (by omega)).mono ?_; rintro e w' ⟨rfl, rfl⟩))
    go_ret
    exact ⟨ret_int (by omega), rfl⟩
theorem rounded_any (s m p : Int) (w : World) (hs : s = 0 ∨ s = 2147483648) (h0 : 0 ≤ m) (h1 : m < 18446744073709551616) (h2 : -900 ≤ p) (h3 : p ≤ 900) :
    Calls Try.prog 69 #[.int .u32 s, .int .u64 m, .int .i64 p] w fun e w' => e = .returned (.int .u32 (s + RI m p)) ∧ w' = w := by
  by_cases hA : (bl m.toNat : Int) - 24 < -149 - p
  · by_cases hd : 0 < -149 - p
    · exact rounded_1 s m p w hs h0 h1 h2 h3 hA hd
    · by_cases hm : m.toNat = 0
      · obtain rfl : m = 0 := by omega
        exact rounded_5 s p w (by omega) h3
      · exact rounded_3 s m p w hs h0 h1 h2 h3 hA hd hm
  · by_cases hd : 0 < (bl m.toNat : Int) - 24
    · exact rounded_2 s m p w hs h0 h1 h2 h3 hA hd
    · by_cases hm : m.toNat = 0
      · obtain rfl : m = 0 := by omega
        exact rounded_5 s p w (by omega) h3
      · exact rounded_4 s m p w hs h0 h1 h2 h3 hA hd hm
end Go.Proofs.Ytnkgfoabadjboaa
