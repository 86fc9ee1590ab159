/-
  The leaves of package soft as they are walked: what each call answers, the world as it was. Conditions: the arguments fit their kinds.
-/
import Derived.Test.YtnkgfoabadjboaaBits
import Derived.Laws.MathBits
namespace Go.Proofs.Ytnkgfoabadjboaa
open Go.RowKit
theorem ret_int {k : IntKind} {a b : Int} (h : a = b) : Ending.returned (.int k a) = .returned (.int k b) := by rw [h]
theorem ret_bool {a b : Bool} (h : a = b) : Ending.returned (.bool a) = .returned (.bool b) := by rw [h]
theorem ret_two {k l : IntKind} {a b c d : Int} (h : a = b) (h' : c = d) : Ending.returned (.tuple #[.int k a, .int l c]) = .returned (.tuple #[.int k b, .int l d]) := by rw [h, h']

set_option maxHeartbeats 400000 in
theorem size_any (a : Int) (w : World) (h0 : 0 ≤ a) (h1 : a < 4294967296) :
    Calls Try.prog 116 #[.int .u32 a] w fun e w' => e = .returned (.int .u32 (a % 2147483648)) ∧ w' = w := by
  have e1 := andNot_sign a h0 h1
  go_enter Try.func116, Try.ntmps116
  go_wp2
  go_ret
  exact ⟨rfl, rfl⟩
set_option maxHeartbeats 400000 in
theorem turned_any (a : Int) (w : World) (h0 : 0 ≤ a) (h1 : a < 4294967296) :
    Calls Try.prog 61 #[.int .u32 a] w fun e w' => e = .returned (.int .u32 ((a + 2147483648) % 4294967296)) ∧ w' = w := by
  have e1 := xor_sign a h0 h1
  go_enter Try.func61, Try.ntmps61
  go_wp2
  go_ret
  exact ⟨rfl, rfl⟩
def isNone (a : Int) : Bool := decide (2139095040 < a % 2147483648)
def isInf (a : Int) : Bool := a % 2147483648 == 2139095040
def isNil (a : Int) : Bool := a % 2147483648 == 0
set_option maxHeartbeats 400000 in
theorem none_any (a : Int) (w : World) (h0 : 0 ≤ a) (h1 : a < 4294967296) :
    Calls Try.prog 59 #[.int .u32 a] w fun e w' => e = .returned (.bool (isNone a)) ∧ w' = w := by
  go_enter Try.func59, Try.ntmps59
  go_wp2_with (go_at_call 116; refine (size_any _ _ h0 h1).mono ?_; rintro e w' ⟨rfl, rfl⟩)
  go_ret
  exact ⟨rfl, rfl⟩
set_option maxHeartbeats 400000 in
theorem inf_any (a : Int) (w : World) (h0 : 0 ≤ a) (h1 : a < 4294967296) :
    Calls Try.prog 60 #[.int .u32 a] w fun e w' => e = .returned (.bool (isInf a)) ∧ w' = w := by
  go_enter Try.func60, Try.ntmps60
  go_wp2_with (go_at_call 116; refine (size_any _ _ h0 h1).mono ?_; rintro e w' ⟨rfl, rfl⟩)
  go_ret
  exact ⟨rfl, rfl⟩
set_option maxHeartbeats 400000 in
theorem nil_any (a : Int) (w : World) (h0 : 0 ≤ a) (h1 : a < 4294967296) :
    Calls Try.prog 67 #[.int .u32 a] w fun e w' => e = .returned (.bool (isNil a)) ∧ w' = w := by
  go_enter Try.func67, Try.ntmps67
  go_wp2_with (go_at_call 116; refine (size_any _ _ h0 h1).mono ?_; rintro e w' ⟨rfl, rfl⟩)
  go_ret
  exact ⟨rfl, rfl⟩
set_option maxHeartbeats 400000 in
theorem parts_any (a : Int) (w : World) (h0 : 0 ≤ a) (h1 : a < 4294967296) :
    Calls Try.prog 68 #[.int .u32 a] w fun e w' => e = .returned (.tuple #[.int .u64 (manI a), .int .i64 (exI a)]) ∧ w' = w := by
  have e1 := and_frac a h0 h1
  have e2 := or_23 (a % 8388608) (by omega) (by omega)
  by_cases h : a % 2147483648 < 8388608
  · have m1 : manI a = a % 8388608 := by unfold manI; rw [if_pos h]; omega
    have m2 : exI a = -149 := by unfold exI; rw [if_pos h]
    rw [m1, m2]
    clear m1 m2
    go_enter Try.func68, Try.ntmps68
    go_wp2_with (go_at_call 116; refine (size_any _ _ h0 h1).mono ?_; rintro e w' ⟨rfl, rfl⟩)
    go_ret2
    exact ⟨rfl, rfl⟩
  · have m1 : manI a = a % 8388608 + 8388608 := by unfold manI; rw [if_neg h]
    have m2 : exI a = a % 2147483648 / 8388608 - 150 := by unfold exI; rw [if_neg h]
    rw [m1, m2]
    clear m1 m2
    go_enter Try.func68, Try.ntmps68
    go_wp2_with (go_at_call 116; refine (size_any _ _ h0 h1).mono ?_; rintro e w' ⟨rfl, rfl⟩)
    go_ret2
    exact ⟨rfl, rfl⟩
set_option maxHeartbeats 400000 in
theorem sticky_any (a : Int) (w : World) (_h0 : 0 ≤ a) (_h1 : a < 18446744073709551616) :
    Calls Try.prog 76 #[.int .u64 a] w fun e w' => e = .returned (.int .u64 (min a 1)) ∧ w' = w := by
  go_enter Try.func76, Try.ntmps76
  go_wp2
  all_goals (go_ret; refine ⟨ret_int (?_ : _ = _), rfl⟩)
  · show (1 : Int) = _; omega
  · show a = _; omega
theorem w64 (n : Int) (h : -9223372036854775808 ≤ n ∧ n ≤ 9223372036854775807) : wrap64 n = n := by unfold wrap64; omega
theorem bl_eq (n : Nat) : bitLen n = bl n := rfl
theorem bl_shift (x b c : Nat) (hc : c = 2 ^ b) (h : c ≤ x) : bl x = b + bl (x / c) := by
  subst hc
  have := Nat.div_pos h (pow_pos' b)
  exact bitLen_shift x b (by omega)
theorem len_close (a y : Int) (C : Nat) (c : Nat) (hc : c = 2 ^ C) (hy : y.toNat = a.toNat / c) (h : c = 1 ∨ c ≤ a.toNat) (hs : y.toNat < 256) (hC : C ≤ 56) : wrap64 ((C : Int) + wrap64 ↑(bitLen y.toNat)) = ↑(bl a.toNat) := by
  have h8 := bitLen_le8 y.toNat hs
  rw [bl_eq] at *
  have : bl a.toNat = C + bl y.toNat := by
    rcases h with h | h
    · have : C = 0 := by
        rcases Nat.eq_zero_or_pos C with h' | h'
        · exact h'
        · have := Nat.pow_le_pow_right (n := 2) (by decide) h'
          omega
      rw [hy, this, h, Nat.div_one]; omega
    · rw [hy]; exact bl_shift _ _ _ hc h
  rw [this, w64 (bl y.toNat) (by omega), w64 _ (by omega)]; omega
set_option maxHeartbeats 4000000 in
set_option maxRecDepth 100000 in
theorem len64_any (a : Int) (w : World) (h0 : 0 ≤ a) (h1 : a < 18446744073709551616) :
    Calls Try.prog 117 #[.int .u64 a] w fun e w' => e = .returned (.int .i64 (bl a.toNat)) ∧ w' = w := by
  go_enter Try.func117, Try.ntmps117
  go_wp2
  all_goals (go_ret; refine ⟨congrArg Ending.returned (congrArg (Value.int IntKind.i64) ?_), rfl⟩; rw [len8tab_get])
  · exact len_close a _ 56 72057594037927936 rfl (by omega) (.inr (by omega)) (by omega) (by decide)
  · exact len_close a _ 48 281474976710656 rfl (by omega) (.inr (by omega)) (by omega) (by decide)
  · exact len_close a _ 40 1099511627776 rfl (by omega) (.inr (by omega)) (by omega) (by decide)
  · exact len_close a _ 32 4294967296 rfl (by omega) (.inr (by omega)) (by omega) (by decide)
  · exact len_close a _ 24 16777216 rfl (by omega) (.inr (by omega)) (by omega) (by decide)
  · exact len_close a _ 16 65536 rfl (by omega) (.inr (by omega)) (by omega) (by decide)
  · exact len_close a _ 8 256 rfl (by omega) (.inr (by omega)) (by omega) (by decide)
  · have h8 := bitLen_le8 a.toNat (by omega)
    rw [w64 (bitLen a.toNat) (by omega), w64 _ (by omega)]; rfl
theorem bl_le64 (a : Int) (_h0 : 0 ≤ a) (h1 : a < 18446744073709551616) : bl a.toNat ≤ 64 := by
  by_cases h : a.toNat = 0
  · rw [h]; decide
  · have h2 := bl_le a.toNat h
    have h3 : 2 ^ (bl a.toNat - 1) < 2 ^ 64 := by omega
    have := (Nat.pow_lt_pow_iff_right (by decide : 1 < 2)).1 h3
    omega
set_option maxHeartbeats 400000 in
theorem lz64_any (a : Int) (w : World) (h0 : 0 ≤ a) (h1 : a < 18446744073709551616) :
    Calls Try.prog 74 #[.int .u64 a] w fun e w' => e = .returned (.int .i64 (64 - bl a.toNat)) ∧ w' = w := by
  have hb := bl_le64 a h0 h1
  go_enter Try.func74, Try.ntmps74
  go_wp2_with (go_at_call 117; refine (len64_any _ _ h0 h1).mono ?_; rintro e w' ⟨rfl, rfl⟩)
  go_ret
  exact ⟨rfl, rfl⟩

theorem shl_rest (m n : Int) (h0 : 0 ≤ m) (h2 : 0 < n) (h3 : n ≤ 64) :
    IntKind.u64.wrap (m * 2 ^ (64 - n).toNat) = ((m.toNat % 2 ^ n.toNat * 2 ^ (64 - n).toNat : Nat) : Int) := by
  obtain ⟨a, rfl⟩ : ∃ a : Nat, m = a := ⟨m.toNat, by omega⟩
  obtain ⟨k, rfl⟩ : ∃ k : Nat, n = k := ⟨n.toNat, by omega⟩
  rw [IntKind.wrap_u64]
  simp only [Int.toNat_natCast]
  have e : ((a : Int) * 2 ^ (64 - (k : Int)).toNat) = ((a * 2 ^ (64 - (k : Int)).toNat : Nat) : Int) := by push_cast; rfl
  rw [e, show (18446744073709551616 : Int) = ((18446744073709551616 : Nat) : Int) from rfl, ← Int.natCast_emod]
  congr 1
  rw [show 18446744073709551616 = 2 ^ k * 2 ^ (64 - (k : Int)).toNat from by rw [← Nat.pow_add, show k + (64 - (k : Int)).toNat = 64 from by omega]]
  exact Nat.mul_mod_mul_right _ _ _
theorem rest_cmp (m n : Int) (h2 : 0 < n) (h3 : n ≤ 64) :
    (9223372036854775808 < m.toNat % 2 ^ n.toNat * 2 ^ (64 - n).toNat ↔ 2 ^ n.toNat < 2 * (m.toNat % 2 ^ n.toNat)) ∧
    (m.toNat % 2 ^ n.toNat * 2 ^ (64 - n).toNat = 9223372036854775808 ↔ 2 * (m.toNat % 2 ^ n.toNat) = 2 ^ n.toNat) := by
  have e : 2 ^ n.toNat * 2 ^ (64 - n).toNat = 18446744073709551616 := by rw [← Nat.pow_add, show n.toNat + (64 - n).toNat = 64 from by omega]
  have hp := pow_pos' (64 - n).toNat
  generalize m.toNat % 2 ^ n.toNat = r at *
  generalize 2 ^ n.toNat = N at *
  generalize 2 ^ (64 - n).toNat = t at *
  have e2 : 2 * r * t = 2 * (r * t) := Nat.mul_assoc _ _ _
  constructor
  · constructor
    · intro h
      exact Nat.lt_of_mul_lt_mul_right (a := t) (by omega)
    · intro h
      have := Nat.mul_lt_mul_of_pos_right h hp
      omega
  · constructor
    · intro h
      exact Nat.eq_of_mul_eq_mul_right hp (by omega)
    · intro h
      have : 2 * r * t = N * t := by rw [h]
      omega
theorem pow_cast (n : Nat) : ((2 : Int) ^ n) = ((2 ^ n : Nat) : Int) := by push_cast; rfl
theorem rne_up (m n : Int) (h0 : 0 ≤ m) (h2 : 0 < n) (h3 : n ≤ 64) (h : 9223372036854775808 < IntKind.u64.wrap (m * 2 ^ (64 - n).toNat) ∨ (IntKind.u64.wrap (m * 2 ^ (64 - n).toNat) = 9223372036854775808 ∧ (m / 2 ^ n.toNat) % 2 = 1)) :
    m / 2 ^ n.toNat + 1 = (rne m.toNat n.toNat : Nat) := by
  rw [shl_rest m n h0 h2 h3] at h
  obtain ⟨c1, c2⟩ := rest_cmp m n h2 h3
  have e : m / 2 ^ n.toNat = ((m.toNat / 2 ^ n.toNat : Nat) : Int) := by
    rw [pow_cast, Int.natCast_ediv, Int.toNat_of_nonneg h0]
  rw [e] at h ⊢
  unfold rne
  rw [if_pos (by
    rcases h with h | h
    · exact .inl (c1.1 (by omega))
    · exact .inr ⟨c2.1 (by omega), by omega⟩)]
  omega
theorem rne_down (m n : Int) (h0 : 0 ≤ m) (h2 : 0 < n) (h3 : n ≤ 64) (h : IntKind.u64.wrap (m * 2 ^ (64 - n).toNat) ≤ 9223372036854775808) (h' : IntKind.u64.wrap (m * 2 ^ (64 - n).toNat) = 9223372036854775808 → (m / 2 ^ n.toNat) % 2 = 0) :
    m / 2 ^ n.toNat = (rne m.toNat n.toNat : Nat) := by
  rw [shl_rest m n h0 h2 h3] at h h'
  obtain ⟨c1, c2⟩ := rest_cmp m n h2 h3
  have e : m / 2 ^ n.toNat = ((m.toNat / 2 ^ n.toNat : Nat) : Int) := by
    rw [pow_cast, Int.natCast_ediv, Int.toNat_of_nonneg h0]
  rw [e] at h' ⊢
  unfold rne
  rw [if_neg (by
    rintro (g | g)
    · have := c1.2 g; omega
    · have := h' (by have := c2.2 g.1; omega); omega)]
  omega
theorem rne_far (m n : Int) (h0 : 0 ≤ m) (h1 : m < 18446744073709551616) (h3 : 64 < n) : rne m.toNat n.toNat = 0 := by
  have h : 2 ^ 65 ≤ 2 ^ n.toNat := Nat.pow_le_pow_right (by decide) (by omega)
  have a : m.toNat < 2 ^ n.toNat := by omega
  unfold rne
  rw [Nat.div_eq_of_lt a, Nat.mod_eq_of_lt a, if_neg (by omega)]
theorem odd_of (x : Int) (h0 : 0 ≤ x) (h : (x.tmod 2 == 1) = true) : x % 2 = 1 := by
  rw [Int.tmod_eq_emod_of_nonneg h0] at h; simpa using h
theorem even_of (x : Int) (h0 : 0 ≤ x) (h : (x.tmod 2 == 1) = false) : x % 2 = 0 := by
  rw [Int.tmod_eq_emod_of_nonneg h0] at h
  have : ¬ x % 2 = 1 := by simpa using h
  omega
theorem half_bd (m n : Int) (h0 : 0 ≤ m) (h1 : m < 18446744073709551616) (h2 : 0 < n) : 0 ≤ m / 2 ^ n.toNat ∧ m / 2 ^ n.toNat < 9223372036854775808 := by
  obtain ⟨k, hk⟩ : ∃ k, n.toNat = k + 1 := ⟨n.toNat - 1, by omega⟩
  have hp : (0 : Int) < 2 ^ k := by rw [pow_cast]; have := pow_pos' k; omega
  rw [hk, show (2 : Int) ^ (k + 1) = 2 ^ k * 2 from rfl, ← Int.ediv_ediv_of_nonneg (by omega)]
  have a1 : 0 ≤ m / 2 ^ k := Int.ediv_nonneg h0 (by omega)
  have a2 : m / 2 ^ k ≤ m := Int.ediv_le_self _ h0
  omega
theorem u64_small (x : Int) (h0 : 0 ≤ x) (h1 : x < 18446744073709551616) : IntKind.u64.wrap x = x := by rw [IntKind.wrap_u64]; omega
set_option maxHeartbeats 400000 in
theorem shifted_any (m n : Int) (w : World) (h0 : 0 ≤ m) (h1 : m < 18446744073709551616) (h2 : 0 < n) :
    Calls Try.prog 118 #[.int .u64 m, .int .i64 n] w fun e w' => e = .returned (.int .u64 (rne m.toNat n.toNat)) ∧ w' = w := by
  by_cases h3 : 64 < n
  · have e := rne_far m n h0 h1 h3
    rw [e]
    clear e
    go_enter Try.func118, Try.ntmps118
    go_wp2
    go_ret
    exact ⟨rfl, rfl⟩
  · have U := rne_up m n h0 h2 (by omega)
    have D := rne_down m n h0 h2 (by omega)
    generalize rne m.toNat n.toNat = q at *
    have U' : Hid _ := U
    have D' : Hid _ := D
    clear U D
    go_enter Try.func118, Try.ntmps118
    go_wp2
    all_goals (go_ret; refine ⟨congrArg Ending.returned (congrArg (Value.int IntKind.u64) ?_), rfl⟩; have B := half_bd m n h0 h1 h2)
    · rw [u64_small _ (by omega) (by omega)]; exact U'.out (.inr ⟨‹_›, odd_of _ B.1 ‹_›⟩)
    · exact D'.out ‹_› fun _ => even_of _ B.1 ‹_›
    · exact D'.out ‹_› fun h => absurd h ‹_›
    · rw [u64_small _ (by omega) (by omega)]; exact U'.out (.inl ‹_›)

theorem isNone_t {a : Int} (h : 2139095040 < a % 2147483648) : isNone a = true := by unfold isNone; simpa using h
theorem isNone_f {a : Int} (h : ¬ 2139095040 < a % 2147483648) : isNone a = false := by unfold isNone; simpa using h
theorem isInf_t {a : Int} (h : a % 2147483648 = 2139095040) : isInf a = true := by unfold isInf; simpa using h
theorem isInf_f {a : Int} (h : ¬ a % 2147483648 = 2139095040) : isInf a = false := by unfold isInf; simpa using h
theorem isNil_t {a : Int} (h : a % 2147483648 = 0) : isNil a = true := by unfold isNil; simpa using h
theorem isNil_f {a : Int} (h : ¬ a % 2147483648 = 0) : isNil a = false := by unfold isNil; simpa using h
end Go.Proofs.Ytnkgfoabadjboaa
