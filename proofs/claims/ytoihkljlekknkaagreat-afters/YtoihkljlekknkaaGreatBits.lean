/-
  What Go's operations on bits say of whole numbers, at the constants of package soft. Conditions: the operands fit their kinds.
-/
import Derived.Test.YtoihkljlekknkaaGreatRows
import Derived.Test.YtoihkljlekknkaaGreatMath
import Derived.WalkKit
import Derived.WalkSpells
import Derived.WalkLawsBesides
import Derived.Laws.BitsAllLaws
import Derived.Laws.MathBits
namespace Go.Proofs.YtoihkljlekknkaaGreat
open Go.RowKit

theorem andNot_sign (a : Int) (h0 : 0 ≤ a) (h1 : a < 4294967296) : bits .andNot .u32 a 2147483648 = a % 2147483648 := by
 obtain ⟨n, rfl⟩ : ∃ n : Nat, a = n := ⟨a.toNat, by omega⟩
 have := u32_andNot_nat n 2147483648 (by omega) (by omega)
 rw [show ((2147483648 : Nat) : Int) = 2147483648 from rfl] at this
 rw [this, show 4294967295 - 2147483648 = 2 ^ 31 - 1 from rfl, Nat.and_two_pow_sub_one_eq_mod]; omega
theorem and_sign (a : Int) (h0 : 0 ≤ a) (h1 : a < 4294967296) : bits .and .u32 a 2147483648 = a / 2147483648 * 2147483648 := by
 obtain ⟨n, rfl⟩ : ∃ n : Nat, a = n := ⟨a.toNat, by omega⟩
 have := u32_and_nat n 2147483648 (by omega) (by omega)
 rw [show ((2147483648 : Nat) : Int) = 2147483648 from rfl] at this
 rw [this, show 2147483648 = 2 ^ 31 from rfl, nat_bit]; omega
theorem and_frac (a : Int) (h0 : 0 ≤ a) (h1 : a < 4294967296) : bits .and .u32 a 8388607 = a % 8388608 := by
 obtain ⟨n, rfl⟩ : ∃ n : Nat, a = n := ⟨a.toNat, by omega⟩
 have := u32_and_nat n 8388607 (by omega) (by omega)
 rw [show ((8388607 : Nat) : Int) = 8388607 from rfl] at this
 rw [this, show 8388607 = 2 ^ 23 - 1 from rfl, Nat.and_two_pow_sub_one_eq_mod]; omega
theorem or_23 (a : Int) (h0 : 0 ≤ a) (h1 : a < 8388608) : bits .or .u64 a 8388608 = a + 8388608 := by
 obtain ⟨n, rfl⟩ : ∃ n : Nat, a = n := ⟨a.toNat, by omega⟩
 have := u64_or_nat n 8388608 (by omega) (by omega)
 rw [show ((8388608 : Nat) : Int) = 8388608 from rfl] at this
 rw [this, Nat.or_comm, nat_join 23 8388608 n (by decide) (by omega)]; omega
theorem or_sign0 (p : Int) (h0 : 0 ≤ p) (h1 : p < 2147483648) : bits .or .u32 0 p = p := by
 obtain ⟨n, rfl⟩ : ∃ n : Nat, p = n := ⟨p.toNat, by omega⟩
 have := u32_or_nat 0 n (by omega) (by omega)
 rw [show ((0 : Nat) : Int) = 0 from rfl] at this
 rw [this, Nat.zero_or]
theorem or_sign1 (p : Int) (h0 : 0 ≤ p) (h1 : p < 2147483648) : bits .or .u32 2147483648 p = 2147483648 + p := by
 obtain ⟨n, rfl⟩ : ∃ n : Nat, p = n := ⟨p.toNat, by omega⟩
 have := u32_or_nat 2147483648 n (by omega) (by omega)
 rw [show ((2147483648 : Nat) : Int) = 2147483648 from rfl] at this
 rw [this, nat_join 31 2147483648 n (by decide) (by omega)]; omega
theorem or_sign (s p : Int) (hs : s = 0 ∨ s = 2147483648) (h0 : 0 ≤ p) (h1 : p < 2147483648) : bits .or .u32 s p = s + p := by
 rcases hs with rfl | rfl
 · rw [or_sign0 p h0 h1]; omega
 · exact or_sign1 p h0 h1
theorem xor_sign_nat (n : Nat) (h : n < 4294967296) : n ^^^ 2147483648 = (n + 2147483648) % 4294967296 := by
 by_cases hn : n < 2147483648
 · have : n ^^^ 2147483648 = 2147483648 ||| n := by
    rw [Nat.or_comm]
    apply Nat.eq_of_testBit_eq; intro i
    rw [Nat.testBit_xor, Nat.testBit_or, show 2147483648 = 2 ^ 31 from rfl, Nat.testBit_two_pow]
    by_cases hi : 31 = i
    · subst hi
      rw [Nat.testBit_lt_two_pow (show n < 2 ^ 31 by omega)]; rfl
    · simp [hi]
   rw [this, nat_join 31 2147483648 n (by decide) (by omega)]; omega
 · obtain ⟨r, rfl⟩ : ∃ r, n = 2147483648 + r := ⟨n - 2147483648, by omega⟩
   have e : 2147483648 + r = 2147483648 ^^^ r := by
    rw [← nat_join 31 2147483648 r (by decide) (by omega)]
    apply Nat.eq_of_testBit_eq; intro i
    rw [Nat.testBit_xor, Nat.testBit_or, show 2147483648 = 2 ^ 31 from rfl, Nat.testBit_two_pow]
    by_cases hi : 31 = i
    · subst hi
      rw [Nat.testBit_lt_two_pow (show r < 2 ^ 31 by omega)]; rfl
    · simp [hi]
   rw [e, Nat.xor_comm, ← Nat.xor_assoc, Nat.xor_self, Nat.zero_xor, ← e]; omega
theorem xor_sign (a : Int) (h0 : 0 ≤ a) (h1 : a < 4294967296) : bits .xor .u32 a 2147483648 = (a + 2147483648) % 4294967296 := by
 obtain ⟨n, rfl⟩ : ∃ n : Nat, a = n := ⟨a.toNat, by omega⟩
 have := u32_xor_nat n 2147483648 (by omega) (by omega)
 rw [show ((2147483648 : Nat) : Int) = 2147483648 from rfl] at this
 rw [this, xor_sign_nat n (by omega)]; omega
/-- the sign of a product -/
def sgn2 (a b : Int) : Int := if a / 2147483648 = b / 2147483648 then 0 else 2147483648
theorem and_xor_sign (a b : Int) (h0 : 0 ≤ a) (h1 : a < 4294967296) (g0 : 0 ≤ b) (g1 : b < 4294967296) : bits .and .u32 (bits .xor .u32 a b) 2147483648 = sgn2 a b := by
 obtain ⟨n, rfl⟩ : ∃ n : Nat, a = n := ⟨a.toNat, by omega⟩
 obtain ⟨m, rfl⟩ : ∃ m : Nat, b = m := ⟨b.toNat, by omega⟩
 have h := u32_xor_nat n m (by omega) (by omega)
 rw [h]
 have hx : n ^^^ m < 2 ^ 32 := Nat.xor_lt_two_pow (by omega) (by omega)
 have := u32_and_nat (n ^^^ m) 2147483648 (by omega) (by omega)
 rw [show ((2147483648 : Nat) : Int) = 2147483648 from rfl] at this
 rw [this, show 2147483648 = 2 ^ 31 from rfl, nat_bit]
 have hn : (n.testBit 31) = decide (n / 2147483648 = 1) := by
  rw [Nat.testBit_eq_decide_div_mod_eq]; congr 1; apply propext; omega
 have hm : (m.testBit 31) = decide (m / 2147483648 = 1) := by
  rw [Nat.testBit_eq_decide_div_mod_eq]; congr 1; apply propext; omega
 have hxt : ((n ^^^ m).testBit 31) = decide ((n ^^^ m) / 2 ^ 31 % 2 = 1) := Nat.testBit_eq_decide_div_mod_eq
 rw [Nat.testBit_xor, hn, hm] at hxt
 unfold sgn2
 by_cases a1 : n / 2147483648 = 1 <;> by_cases a2 : m / 2147483648 = 1 <;> simp [a1, a2] at hxt <;> split <;> omega
/-- a rest leaves a bit -/
def stick (q r : Int) : Int := if r = 0 then q else if q % 2 = 0 then q + 1 else q
theorem or_bit (q r : Int) (h0 : 0 ≤ q) (h1 : q < 18446744073709551616) (hr : 0 ≤ r) : bits .or .u64 q (min r 1) = stick q r := by
 obtain ⟨n, rfl⟩ : ∃ n : Nat, q = n := ⟨q.toNat, by omega⟩
 unfold stick
 by_cases h : r = 0
 · subst h
   have := u64_or_nat n 0 (by omega) (by omega)
   rw [show ((0 : Nat) : Int) = 0 from rfl] at this
   rw [show min (0 : Int) 1 = 0 from rfl, this, Nat.or_zero, if_pos rfl]
 · have := u64_or_nat n 1 (by omega) (by omega)
   rw [show ((1 : Nat) : Int) = 1 from rfl] at this
   rw [show min r 1 = 1 from by omega, this, if_neg h]
   have e : n ||| 1 = n / 2 * 2 + 1 := by
    have := nat_join 1 (n / 2 * 2) 1 (by omega) (by decide)
    rw [← this]
    apply Nat.eq_of_testBit_eq; intro i
    rw [Nat.testBit_or, Nat.testBit_or]
    cases i with
    | zero => simp
    | succ i => rw [Nat.testBit_succ, Nat.testBit_succ (x := n / 2 * 2)]; congr 2; omega
   rw [e]; split <;> omega
end Go.Proofs.YtoihkljlekknkaaGreat
/-
  The leaves of package soft as they are walked: what each call answers, the world as it was. Conditions: the arguments fit their kinds.
-/
namespace Go.Proofs.YtoihkljlekknkaaGreat
open Go.RowKit
theorem ret_int {k : IntKind} {a b : Int} (h : a = b) : Ending.returned (.int k a) = .returned (.int k b) := by rw [h]
theorem ret_bool {a b : Bool} (h : a = b) : Ending.returned (.bool a) = .returned (.bool b) := by rw [h]
theorem ret_two {k l : IntKind} {a b c d : Int} (h : a = b) (h' : c = d) : Ending.returned (.tuple #[.int k a, .int l c]) = .returned (.tuple #[.int k b, .int l d]) := by rw [h, h']

set_option maxHeartbeats 400000 in
theorem size_any (a : Int) (w : World) (h0 : 0 ≤ a) (h1 : a < 4294967296) :
 Calls Tryz.prog 118 #[.int .u32 a] w fun e w' => e = .returned (.int .u32 (a % 2147483648)) ∧ w' = w := by
 have e1 := andNot_sign a h0 h1
 go_enter Tryz.func118, Tryz.ntmps118
 go_wp2
 go_ret
 exact ⟨rfl, rfl⟩
set_option maxHeartbeats 400000 in
theorem turned_any (a : Int) (w : World) (h0 : 0 ≤ a) (h1 : a < 4294967296) :
 Calls Tryz.prog 93 #[.int .u32 a] w fun e w' => e = .returned (.int .u32 ((a + 2147483648) % 4294967296)) ∧ w' = w := by
 have e1 := xor_sign a h0 h1
 go_enter Tryz.func93, Tryz.ntmps93
 go_wp2
 go_ret
 exact ⟨rfl, rfl⟩
def isNone (a : Int) : Bool := decide (2139095040 < a % 2147483648)
def isInf (a : Int) : Bool := a % 2147483648 == 2139095040
def isNil (a : Int) : Bool := a % 2147483648 == 0
set_option maxHeartbeats 400000 in
theorem none_any (a : Int) (w : World) (h0 : 0 ≤ a) (h1 : a < 4294967296) :
 Calls Tryz.prog 91 #[.int .u32 a] w fun e w' => e = .returned (.bool (isNone a)) ∧ w' = w := by
 go_enter Tryz.func91, Tryz.ntmps91
 go_wp2_with (go_at_call 118; refine (size_any _ _ h0 h1).mono ?_; rintro e w' ⟨rfl, rfl⟩)
 go_ret
 exact ⟨rfl, rfl⟩
set_option maxHeartbeats 400000 in
theorem inf_any (a : Int) (w : World) (h0 : 0 ≤ a) (h1 : a < 4294967296) :
 Calls Tryz.prog 92 #[.int .u32 a] w fun e w' => e = .returned (.bool (isInf a)) ∧ w' = w := by
 go_enter Tryz.func92, Tryz.ntmps92
 go_wp2_with (go_at_call 118; refine (size_any _ _ h0 h1).mono ?_; rintro e w' ⟨rfl, rfl⟩)
 go_ret
 exact ⟨rfl, rfl⟩
set_option maxHeartbeats 400000 in
theorem nil_any (a : Int) (w : World) (h0 : 0 ≤ a) (h1 : a < 4294967296) :
 Calls Tryz.prog 95 #[.int .u32 a] w fun e w' => e = .returned (.bool (isNil a)) ∧ w' = w := by
 go_enter Tryz.func95, Tryz.ntmps95
 go_wp2_with (go_at_call 118; refine (size_any _ _ h0 h1).mono ?_; rintro e w' ⟨rfl, rfl⟩)
 go_ret
 exact ⟨rfl, rfl⟩
set_option maxHeartbeats 400000 in
theorem parts_any (a : Int) (w : World) (h0 : 0 ≤ a) (h1 : a < 4294967296) :
 Calls Tryz.prog 99 #[.int .u32 a] w fun e w' => e = .returned (.tuple #[.int .u64 (manI a), .int .i64 (exI a)]) ∧ w' = w := by
 have e1 := and_frac a h0 h1
 have e2 := or_23 (a % 8388608) (by omega) (by omega)
 by_cases h : a % 2147483648 < 8388608
 · have m1 : manI a = a % 8388608 := by unfold manI; rw [if_pos h]; omega
   have m2 : exI a = -149 := by unfold exI; rw [if_pos h]
   rw [m1, m2]
   clear m1 m2
   go_enter Tryz.func99, Tryz.ntmps99
   go_wp2_with (go_at_call 118; refine (size_any _ _ h0 h1).mono ?_; rintro e w' ⟨rfl, rfl⟩)
   go_ret2
   exact ⟨rfl, rfl⟩
 · have m1 : manI a = a % 8388608 + 8388608 := by unfold manI; rw [if_neg h]
   have m2 : exI a = a % 2147483648 / 8388608 - 150 := by unfold exI; rw [if_neg h]
   rw [m1, m2]
   clear m1 m2
   go_enter Tryz.func99, Tryz.ntmps99
   go_wp2_with (go_at_call 118; refine (size_any _ _ h0 h1).mono ?_; rintro e w' ⟨rfl, rfl⟩)
   go_ret2
   exact ⟨rfl, rfl⟩
set_option maxHeartbeats 400000 in
theorem sticky_any (a : Int) (w : World) (_h0 : 0 ≤ a) (_h1 : a < 18446744073709551616) :
 Calls Tryz.prog 102 #[.int .u64 a] w fun e w' => e = .returned (.int .u64 (min a 1)) ∧ w' = w := by
 go_enter Tryz.func102, Tryz.ntmps102
 go_wp2
 all_goals (go_ret; refine ⟨ret_int (?_ : _ = _), rfl⟩)
 · show (1 : Int) = _; omega
 · show a = _; omega
theorem w64 (n : Int) (h : -9223372036854775808 ≤ n ∧ n ≤ 9223372036854775807) : wrap64 n = n := by unfold wrap64; omega
theorem bl_eq (n : Nat) : bitLen n = bl n := rfl
theorem bl_shift (x b c : Nat) (hc : c = 2 ^ b) (h : c ≤ x) : bl x = b + bl (x / c) := by
 subst hc
 have := Nat.div_pos h (pow_pos' b)
 exact bitLen_shift x b (by omega)
theorem len_close (a y : Int) (C : Nat) (c : Nat) (hc : c = 2 ^ C) (hy : y.toNat = a.toNat / c) (h : c = 1 ∨ c ≤ a.toNat) (hs : y.toNat < 256) (hC : C ≤ 56) : wrap64 ((C : Int) + wrap64 ↑(bitLen y.toNat)) = ↑(bl a.toNat) := by
 have h8 := bitLen_le8 y.toNat hs
 rw [bl_eq] at *
 have : bl a.toNat = C + bl y.toNat := by
  rcases h with h | h
  · have : C = 0 := by
     rcases Nat.eq_zero_or_pos C with h' | h'
     · exact h'
     · have := Nat.pow_le_pow_right (n := 2) (by decide) h'
       omega
    rw [hy, this, h, Nat.div_one]; omega
  · rw [hy]; exact bl_shift _ _ _ hc h
 rw [this, w64 (bl y.toNat) (by omega), w64 _ (by omega)]; omega
set_option maxHeartbeats 4000000 in
set_option maxRecDepth 100000 in
theorem len64_any (a : Int) (w : World) (h0 : 0 ≤ a) (h1 : a < 18446744073709551616) :
 Calls Tryz.prog 119 #[.int .u64 a] w fun e w' => e = .returned (.int .i64 (bl a.toNat)) ∧ w' = w := by
 go_enter Tryz.func119, Tryz.ntmps119
 go_wp2
 all_goals (go_ret; refine ⟨congrArg Ending.returned (congrArg (Value.int IntKind.i64) ?_), rfl⟩; rw [len8tab_get])
 · exact len_close a _ 56 72057594037927936 rfl (by omega) (.inr (by omega)) (by omega) (by decide)
 · exact len_close a _ 48 281474976710656 rfl (by omega) (.inr (by omega)) (by omega) (by decide)
 · exact len_close a _ 40 1099511627776 rfl (by omega) (.inr (by omega)) (by omega) (by decide)
 · exact len_close a _ 32 4294967296 rfl (by omega) (.inr (by omega)) (by omega) (by decide)
 · exact len_close a _ 24 16777216 rfl (by omega) (.inr (by omega)) (by omega) (by decide)
 · exact len_close a _ 16 65536 rfl (by omega) (.inr (by omega)) (by omega) (by decide)
 · exact len_close a _ 8 256 rfl (by omega) (.inr (by omega)) (by omega) (by decide)
 · have h8 := bitLen_le8 a.toNat (by omega)
   rw [w64 (bitLen a.toNat) (by omega), w64 _ (by omega)]; rfl
theorem bl_le64 (a : Int) (_h0 : 0 ≤ a) (h1 : a < 18446744073709551616) : bl a.toNat ≤ 64 := by
 by_cases h : a.toNat = 0
 · rw [h]; decide
 · have h2 := bl_le a.toNat h
   have h3 : 2 ^ (bl a.toNat - 1) < 2 ^ 64 := by omega
   have := (Nat.pow_lt_pow_iff_right (by decide : 1 < 2)).1 h3
   omega
set_option maxHeartbeats 400000 in
theorem lz64_any (a : Int) (w : World) (h0 : 0 ≤ a) (h1 : a < 18446744073709551616) :
 Calls Tryz.prog 100 #[.int .u64 a] w fun e w' => e = .returned (.int .i64 (64 - bl a.toNat)) ∧ w' = w := by
 have hb := bl_le64 a h0 h1
 go_enter Tryz.func100, Tryz.ntmps100
 go_wp2_with (go_at_call 119; refine (len64_any _ _ h0 h1).mono ?_; rintro e w' ⟨rfl, rfl⟩)
 go_ret
 exact ⟨rfl, rfl⟩

theorem shl_rest (m n : Int) (h0 : 0 ≤ m) (h2 : 0 < n) (h3 : n ≤ 64) :
 IntKind.u64.wrap (m * 2 ^ (64 - n).toNat) = ((m.toNat % 2 ^ n.toNat * 2 ^ (64 - n).toNat : Nat) : Int) := by
 obtain ⟨a, rfl⟩ : ∃ a : Nat, m = a := ⟨m.toNat, by omega⟩
 obtain ⟨k, rfl⟩ : ∃ k : Nat, n = k := ⟨n.toNat, by omega⟩
 rw [IntKind.wrap_u64]
 simp only [Int.toNat_natCast]
 have e : ((a : Int) * 2 ^ (64 - (k : Int)).toNat) = ((a * 2 ^ (64 - (k : Int)).toNat : Nat) : Int) := by push_cast; rfl
 rw [e, show (18446744073709551616 : Int) = ((18446744073709551616 : Nat) : Int) from rfl, ← Int.natCast_emod]
 congr 1
 rw [show 18446744073709551616 = 2 ^ k * 2 ^ (64 - (k : Int)).toNat from by rw [← Nat.pow_add, show k + (64 - (k : Int)).toNat = 64 from by omega]]
 exact Nat.mul_mod_mul_right _ _ _
theorem rest_cmp (m n : Int) (h2 : 0 < n) (h3 : n ≤ 64) :
 (9223372036854775808 < m.toNat % 2 ^ n.toNat * 2 ^ (64 - n).toNat ↔ 2 ^ n.toNat < 2 * (m.toNat % 2 ^ n.toNat)) ∧
 (m.toNat % 2 ^ n.toNat * 2 ^ (64 - n).toNat = 9223372036854775808 ↔ 2 * (m.toNat % 2 ^ n.toNat) = 2 ^ n.toNat) := by
 have e : 2 ^ n.toNat * 2 ^ (64 - n).toNat = 18446744073709551616 := by rw [← Nat.pow_add, show n.toNat + (64 - n).toNat = 64 from by omega]
 have hp := pow_pos' (64 - n).toNat
 generalize m.toNat % 2 ^ n.toNat = r at *
 generalize 2 ^ n.toNat = N at *
 generalize 2 ^ (64 - n).toNat = t at *
 have e2 : 2 * r * t = 2 * (r * t) := Nat.mul_assoc _ _ _
 constructor
 · constructor
   · intro h
     exact Nat.lt_of_mul_lt_mul_right (a := t) (by omega)
   · intro h
     have := Nat.mul_lt_mul_of_pos_right h hp
     omega
 · constructor
   · intro h
     exact Nat.eq_of_mul_eq_mul_right hp (by omega)
   · intro h
     have : 2 * r * t = N * t := by rw [h]
     omega
theorem pow_cast (n : Nat) : ((2 : Int) ^ n) = ((2 ^ n : Nat) : Int) := by push_cast; rfl
theorem rne_up (m n : Int) (h0 : 0 ≤ m) (h2 : 0 < n) (h3 : n ≤ 64) (h : 9223372036854775808 < IntKind.u64.wrap (m * 2 ^ (64 - n).toNat) ∨ (IntKind.u64.wrap (m * 2 ^ (64 - n).toNat) = 9223372036854775808 ∧ (m / 2 ^ n.toNat) % 2 = 1)) :
 m / 2 ^ n.toNat + 1 = (rne m.toNat n.toNat : Nat) := by
 rw [shl_rest m n h0 h2 h3] at h
 obtain ⟨c1, c2⟩ := rest_cmp m n h2 h3
 have e : m / 2 ^ n.toNat = ((m.toNat / 2 ^ n.toNat : Nat) : Int) := by
  rw [pow_cast, Int.natCast_ediv, Int.toNat_of_nonneg h0]
 rw [e] at h ⊢
 unfold rne
 rw [if_pos (by
  rcases h with h | h
  · exact .inl (c1.1 (by omega))
  · exact .inr ⟨c2.1 (by omega), by omega⟩)]
 omega
theorem rne_down (m n : Int) (h0 : 0 ≤ m) (h2 : 0 < n) (h3 : n ≤ 64) (h : IntKind.u64.wrap (m * 2 ^ (64 - n).toNat) ≤ 9223372036854775808) (h' : IntKind.u64.wrap (m * 2 ^ (64 - n).toNat) = 9223372036854775808 → (m / 2 ^ n.toNat) % 2 = 0) :
 m / 2 ^ n.toNat = (rne m.toNat n.toNat : Nat) := by
 rw [shl_rest m n h0 h2 h3] at h h'
 obtain ⟨c1, c2⟩ := rest_cmp m n h2 h3
 have e : m / 2 ^ n.toNat = ((m.toNat / 2 ^ n.toNat : Nat) : Int) := by
  rw [pow_cast, Int.natCast_ediv, Int.toNat_of_nonneg h0]
 rw [e] at h' ⊢
 unfold rne
 rw [if_neg (by
  rintro (g | g)
  · have := c1.2 g; omega
  · have := h' (by have := c2.2 g.1; omega); omega)]
 omega
theorem rne_far (m n : Int) (h0 : 0 ≤ m) (h1 : m < 18446744073709551616) (h3 : 64 < n) : rne m.toNat n.toNat = 0 := by
 have h : 2 ^ 65 ≤ 2 ^ n.toNat := Nat.pow_le_pow_right (by decide) (by omega)
 have a : m.toNat < 2 ^ n.toNat := by omega
 unfold rne
 rw [Nat.div_eq_of_lt a, Nat.mod_eq_of_lt a, if_neg (by omega)]
theorem odd_of (x : Int) (h0 : 0 ≤ x) (h : (x.tmod 2 == 1) = true) : x % 2 = 1 := by
 rw [Int.tmod_eq_emod_of_nonneg h0] at h; simpa using h
theorem even_of (x : Int) (h0 : 0 ≤ x) (h : (x.tmod 2 == 1) = false) : x % 2 = 0 := by
 rw [Int.tmod_eq_emod_of_nonneg h0] at h
 have : ¬ x % 2 = 1 := by simpa using h
 omega
theorem half_bd (m n : Int) (h0 : 0 ≤ m) (h1 : m < 18446744073709551616) (h2 : 0 < n) : 0 ≤ m / 2 ^ n.toNat ∧ m / 2 ^ n.toNat < 9223372036854775808 := by
 obtain ⟨k, hk⟩ : ∃ k, n.toNat = k + 1 := ⟨n.toNat - 1, by omega⟩
 have hp : (0 : Int) < 2 ^ k := by rw [pow_cast]; have := pow_pos' k; omega
 rw [hk, show (2 : Int) ^ (k + 1) = 2 ^ k * 2 from rfl, ← Int.ediv_ediv_of_nonneg (by omega)]
 have a1 : 0 ≤ m / 2 ^ k := Int.ediv_nonneg h0 (by omega)
 have a2 : m / 2 ^ k ≤ m := Int.ediv_le_self _ h0
 omega
theorem u64_small (x : Int) (h0 : 0 ≤ x) (h1 : x < 18446744073709551616) : IntKind.u64.wrap x = x := by rw [IntKind.wrap_u64]; omega
set_option maxHeartbeats 400000 in
theorem shifted_any (m n : Int) (w : World) (h0 : 0 ≤ m) (h1 : m < 18446744073709551616) (h2 : 0 < n) :
 Calls Tryz.prog 120 #[.int .u64 m, .int .i64 n] w fun e w' => e = .returned (.int .u64 (rne m.toNat n.toNat)) ∧ w' = w := by
 by_cases h3 : 64 < n
 · have e := rne_far m n h0 h1 h3
   rw [e]
   clear e
   go_enter Tryz.func120, Tryz.ntmps120
   go_wp2
   go_ret
   exact ⟨rfl, rfl⟩
 · have U := rne_up m n h0 h2 (by omega)
   have D := rne_down m n h0 h2 (by omega)
   generalize rne m.toNat n.toNat = q at *
   have U' : Hid _ := U
   have D' : Hid _ := D
   clear U D
   go_enter Tryz.func120, Tryz.ntmps120
   go_wp2
   all_goals (go_ret; refine ⟨congrArg Ending.returned (congrArg (Value.int IntKind.u64) ?_), rfl⟩; have B := half_bd m n h0 h1 h2)
   · rw [u64_small _ (by omega) (by omega)]; exact U'.out (.inr ⟨‹_›, odd_of _ B.1 ‹_›⟩)
   · exact D'.out ‹_› fun _ => even_of _ B.1 ‹_›
   · exact D'.out ‹_› fun h => absurd h ‹_›
   · rw [u64_small _ (by omega) (by omega)]; exact U'.out (.inl ‹_›)

theorem isNone_t {a : Int} (h : 2139095040 < a % 2147483648) : isNone a = true := by unfold isNone; simpa using h
theorem isNone_f {a : Int} (h : ¬ 2139095040 < a % 2147483648) : isNone a = false := by unfold isNone; simpa using h
theorem isInf_t {a : Int} (h : a % 2147483648 = 2139095040) : isInf a = true := by unfold isInf; simpa using h
theorem isInf_f {a : Int} (h : ¬ a % 2147483648 = 2139095040) : isInf a = false := by unfold isInf; simpa using h
theorem isNil_t {a : Int} (h : a % 2147483648 = 0) : isNil a = true := by unfold isNil; simpa using h
theorem isNil_f {a : Int} (h : ¬ a % 2147483648 = 0) : isNil a = false := by unfold isNil; simpa using h
end Go.Proofs.YtoihkljlekknkaaGreat
/-
  Any whole number as a pattern (modulo 2^32), as the statements make it. Condition: the number is an int.
-/
namespace Go.Proofs.YtoihkljlekknkaaGreat
open Go.RowKit
set_option linter.unusedVariables false
/-- any number as a pattern -/
def pat (n : Int) : Int := n % 4294967296
theorem pat_bd (n : Int) : 0 ≤ pat n ∧ pat n < 4294967296 := by unfold pat; omega
set_option maxHeartbeats 400000 in
theorem pattern_any (n : Int) (w : World) (h0 : -9223372036854775808 ≤ n) (h1 : n ≤ 9223372036854775807) :
 Calls Tryz.prog 9 #[.int .i64 n] w fun e w' => e = .returned (.int .i64 (pat n)) ∧ w' = w := by
 by_cases h : n.tmod 4294967296 < 0
 · have e : Hid (pat n = n.tmod 4294967296 + 4294967296) := by
    show _ = _
    have e1 := Int.emod_def n 4294967296
    have e2 := Int.tmod_def n 4294967296
    unfold pat
    have hn : n < 0 := Int.lt_of_not_ge fun g => by
     have := Int.tmod_nonneg 4294967296 g; omega
    have := Int.tmod_add_mul_tdiv n 4294967296
    have b1 := Int.lt_tmod_of_pos n (show (0 : Int) < 4294967296 by decide)
    omega
   have b1 := Int.lt_tmod_of_pos n (show (0 : Int) < 4294967296 by decide)
   have b2 := Int.tmod_lt_of_pos n (show (0 : Int) < 4294967296 by decide)
   go_enter Tryz.func9, Tryz.ntmps9
   go_wp2
   go_ret
   refine ⟨congrArg Ending.returned (congrArg (Value.int IntKind.i64) ?_), rfl⟩
   rw [e.out]
 · have e : Hid (pat n = n.tmod 4294967296) := by
    show _ = _
    unfold pat
    have := Int.tmod_add_mul_tdiv n 4294967296
    have b2 := Int.tmod_lt_of_pos n (show (0 : Int) < 4294967296 by decide)
    omega
   have b1 := Int.lt_tmod_of_pos n (show (0 : Int) < 4294967296 by decide)
   have b2 := Int.tmod_lt_of_pos n (show (0 : Int) < 4294967296 by decide)
   go_enter Tryz.func9, Tryz.ntmps9
   go_wp2
   go_ret
   refine ⟨congrArg Ending.returned (congrArg (Value.int IntKind.i64) ?_), rfl⟩
   rw [e.out]
end Go.Proofs.YtoihkljlekknkaaGreat
/-
  What tutorref.Round answers: the pattern that a whole number times a power of 2 rounds to, with its sign. Conditions: the whole number is 0 to 2^63 - 1, the power is -900 to 900.
-/
namespace Go.Proofs.YtoihkljlekknkaaGreat
open Go.RowKit
/-- a sign -/
def sg (s : Bool) : Int := if s = true then 2147483648 else 0
set_option maxHeartbeats 400000 in
theorem signed_any (m : Bool) (a : Int) (w : World) (h0 : 0 ≤ a) (h1 : a < 4294967296) :
 Calls Tryz.prog 72 #[.bool m, .int .i64 a] w fun e w' => e = .returned (.int .i64 (a + sg m)) ∧ w' = w := by
 cases m
 · go_enter Tryz.func72, Tryz.ntmps72
   go_wp2
   go_ret
   exact ⟨ret_int (by simp [sg]), rfl⟩
 · go_enter Tryz.func72, Tryz.ntmps72
   go_wp2
   go_ret
   exact ⟨ret_int (by simp [sg]), rfl⟩
theorem k_small (m : Int) (k : Nat) (h0 : 0 ≤ m) (h1 : m < 9223372036854775808) (h : 0 < m.toNat / 2 ^ k ∨ midB m.toNat k = true) : k ≤ 63 := by
 refine Nat.le_of_not_lt fun hk => ?_
 have hp : 2 ^ 63 ≤ 2 ^ (k - 1) := Nat.pow_le_pow_right (by decide) (by omega)
 have hq : 2 ^ (k - 1) ≤ 2 ^ k := Nat.pow_le_pow_right (by decide) (by omega)
 have a : m.toNat / 2 ^ k = 0 := Nat.div_eq_of_lt (by omega)
 have b : m.toNat / 2 ^ (k - 1) = 0 := Nat.div_eq_of_lt (by omega)
 rcases h with h | h
 · omega
 · unfold midB at h; rw [b] at h; simp at h
theorem mid_next (m k : Nat) : (((m / 2 ^ k : Nat) : Int) % 2 == 1) = midB m (k + 1) := by
 rw [midB_succ]
 by_cases h : m / 2 ^ k % 2 = 1
 · rw [decide_eq_true h, beq_iff_eq]; omega
 · rw [decide_eq_false h, beq_eq_false_iff_ne]; omega
theorem div_next (m k : Nat) : ((m / 2 ^ k : Nat) : Int) / 2 = ((m / 2 ^ (k + 1) : Nat) : Int) := by rw [div_succ]; omega
theorem next_ok (m e : Int) (k : Nat) (h : 16777216 ≤ m.toNat / 2 ^ k ∨ e + k < -149) : k + 1 = 0 ∨ 16777216 ≤ m.toNat / 2 ^ (k + 1 - 1) ∨ e + ((k + 1 : Nat) : Int) - 1 < -149 := by
 rcases h with h | h
 · exact .inr (.inl h)
 · exact .inr (.inr (by omega))
theorem int_eq {k : IntKind} {a b : Int} (h : a = b) : Value.int k a = .int k b := by rw [h]
set_option maxHeartbeats 4000000 in
theorem round_any (s : Bool) (m e : Int) (w : World) (h0 : 0 ≤ m) (h1 : m < 9223372036854775808) (h2 : -900 ≤ e) (h3 : e ≤ 900) :
 Calls Tryz.prog 73 #[.bool s, .int .i64 m, .int .i64 e] w fun r w' => r = .returned (.int .i64 (RI m e + sg s)) ∧ w' = w := by
 go_enter Tryz.func73, Tryz.ntmps73
 go_wp2
 go_loop [1, 2, 7, 8] (fun mv ev iv lv => ∃ k : Nat, mv = .int .i64 (m.toNat / 2 ^ k : Nat) ∧ ev = .int .i64 (e + k) ∧ iv = .bool (midB m.toNat k) ∧ lv = .bool (lessB m.toNat k) ∧ k ≤ 64 ∧ Hid (k = 0 ∨ 16777216 ≤ m.toNat / 2 ^ (k - 1) ∨ e + k - 1 < -149)) (fun _ ev _ _ => (70 + e - intOf ev).toNat)
 case atStart => exact ⟨0, by simp; omega, by simp, rfl, by simp [lessB, Nat.mod_one], by omega, .inl rfl⟩
 case round =>
  obtain ⟨k, rfl, rfl, rfl, rfl, hk64, hk⟩ := hrel
  have N1 : Hid _ := mid_next m.toNat k
  have N2 : Hid _ := div_next m.toNat k
  have N3 : Hid _ := lessB_succ m.toNat k
  have N4 : Hid _ := k_small m k h0 h1
  have N5 : Hid _ := rne_bits m.toNat k
  have N6 : Hid _ := RI_gone m e k
  have N7 : Hid _ := RI_step m e k
  have N8 : Hid _ := next_ok m e k
  have Mb : m.toNat / 2 ^ k < 9223372036854775808 := Nat.lt_of_le_of_lt (Nat.div_le_self _ _) (by omega)
  obtain ⟨M, hM⟩ : ∃ M, M = m.toNat / 2 ^ k := ⟨_, rfl⟩
  obtain ⟨I, hI⟩ : ∃ I, I = midB m.toNat k := ⟨_, rfl⟩
  obtain ⟨L, hL⟩ : ∃ L, L = lessB m.toNat k := ⟨_, rfl⟩
  rw [← hM] at N1 N2 N4 N5 N6 N7 N8 Mb ⊢
  rw [← hI] at N3 N4 N5 N6 ⊢
  rw [← hL] at N3 N5 ⊢
  clear hM hI hL
  by_cases hc : 16777216 ≤ M ∨ (e + k < -149 ∧ (0 < M ∨ I = true))
  · -- one bit more goes
    have hk63 : k ≤ 63 := N4.out (by rcases hc with h | h; exact .inl (by omega); exact h.2)
    have hk' : Hid (k + 1 = 0 ∨ 16777216 ≤ m.toNat / 2 ^ (k + 1 - 1) ∨ e + ((k + 1 : Nat) : Int) - 1 < -149) := N8.out (by omega)
    clear N4 N5 N6 N7 N8 hk
    by_cases c1 : (16777216 : Int) ≤ M
    · clear hc
      cases L <;> cases I
      all_goals
       go_wp2
       go_round
       case rel => exact ⟨k + 1, int_eq N2.out, int_eq (by omega), congrArg _ N1.out, congrArg _ N3.out.symm, by omega, hk'⟩
       case measure => simp [intOf]; omega
    · have c2 : e + k < -149 := by omega
      by_cases c3 : (0 : Int) < M
      · clear hc
        cases L <;> cases I
        all_goals
         go_wp2
         go_round
         case rel => exact ⟨k + 1, int_eq N2.out, int_eq (by omega), congrArg _ N1.out, congrArg _ N3.out.symm, by omega, hk'⟩
         case measure => simp [intOf]; omega
      · have c4 : I = true := by
         rcases hc with h | h
         · omega
         · exact h.2.resolve_left (by omega)
        clear hc
        subst c4
        obtain rfl : M = 0 := by omega
        have N1' : Hid (false = midB m.toNat (k + 1)) := N1.out
        have N2' : Hid ((0 : Int) = (m.toNat / 2 ^ (k + 1) : Nat)) := N2.out
        clear N1 N2
        cases L
        all_goals
         go_wp2
         go_round
         case rel => exact ⟨k + 1, int_eq N2'.out, int_eq (by omega), congrArg _ N1'.out, congrArg _ N3.out.symm, by omega, hk'⟩
         case measure => simp [intOf]; omega
  · clear N1 N2 N3 N4 N8
    have c1 : (M : Int) < 16777216 := by omega
    by_cases c2 : e + k < -149
    · have c3 : M = 0 := by omega
      have c4 : I = false := by
       cases I
       · rfl
       · exact absurd (.inr ⟨c2, .inr rfl⟩) hc
      have hz : Hid _ := N6.out c2 c3 c4 h2
      clear hc N5 N6 N7
      subst c3 c4
      go_wp2_with (first | (go_at_call 72; refine (signed_any _ _ _ (by omega) (by omega)).mono ?_; rintro e w' ⟨rfl, rfl⟩))
      go_ret
      refine ⟨congrArg Ending.returned (congrArg (Value.int IntKind.i64) ?_), rfl⟩
      rw [hz.out, Int.zero_add]
    · obtain ⟨hr, hq⟩ := N7.out (by omega) (by omega) hk.out h2 h0
      have N5 := N5.out
      clear hc N6 N7 hk
      generalize rne m.toNat k = q at *
      have hr : Hid _ := hr
      obtain ⟨f, hf⟩ : ∃ f, f = e + k := ⟨_, rfl⟩
      have f1 : -149 ≤ f := by omega
      have f2 : f ≤ 964 := by omega
      rw [← hf] at hr ⊢
      clear hf c2
      cases I
      · obtain rfl : q = M := by rw [N5]; simp
        clear N5 hq Mb
        obtain ⟨Q, hQ⟩ : ∃ Q : Int, Q = q := ⟨_, rfl⟩
        have q0 : 0 ≤ Q := by omega
        rw [← hQ] at c1 hr ⊢
        clear hQ
        have d1 : (Q == 16777216) = false := by simp only [beq_eq_false_iff_ne, ne_eq]; omega
        go_wp2
        go_loop [1, 2] (fun mv ev => ∃ a g : Int, mv = .int .i64 a ∧ ev = .int .i64 g ∧ 0 ≤ a ∧ a < 16777216 ∧ -149 ≤ g ∧ g ≤ 1000 ∧ Hid (RI a g = RI m e)) (fun _ ev => (intOf ev + 149).toNat)
        case atStart => exact ⟨_, _, rfl, rfl, by omega, by omega, by omega, by omega, hr⟩
        case round =>
         clear hr
         obtain ⟨a, g, rfl, rfl, a0, a1, g0, g1, ha⟩ := hrel
         have hsm : Hid _ := RI_same a g (2 * a) (g - 1) a0 1 (by omega) (by omega) (by omega)
         by_cases d : 0 < a ∧ a < 8388608 ∧ -149 < g
         · obtain ⟨d1, d2, d3⟩ := d
           go_wp2
           go_round
           case rel => exact ⟨2 * a, g - 1, rfl, rfl, by omega, by omega, by omega, by omega, hsm.out.trans ha.out⟩
           case measure => simp [intOf]; omega
         · clear hsm
           by_cases e1 : a < 8388608
           · have hl : Hid _ := (RI_low a g a0 e1 (by omega)).symm.trans ha.out
             clear ha
             by_cases e2 : 0 < a
             all_goals
              go_wp2_with (first | (go_at_call 72; refine (signed_any _ _ _ (by omega) (by omega)).mono ?_; rintro e w' ⟨rfl, rfl⟩))
              go_ret
              refine ⟨congrArg Ending.returned (congrArg (Value.int IntKind.i64) ?_), rfl⟩
              rw [← hl.out]
           · have hl : Hid _ := (RI_high a g (by omega) a1 g0).symm.trans ha.out
             clear ha d
             have e2 : 0 < a := by omega
             by_cases e3 : 255 ≤ g + 150
             all_goals
              go_wp2_with (first | (go_at_call 72; refine (signed_any _ _ _ (by omega) (by omega)).mono ?_; rintro e w' ⟨rfl, rfl⟩))
              go_ret
              refine ⟨congrArg Ending.returned (congrArg (Value.int IntKind.i64) ?_), rfl⟩
              rw [← hl.out]
              omega
      · obtain ⟨Mi, hMi⟩ : ∃ Mi : Int, Mi = M := ⟨_, rfl⟩
        have m0 : 0 ≤ Mi := by omega
        by_cases hu : L = true ∨ M % 2 = 1
        · rw [if_pos ⟨rfl, hu⟩] at N5
          subst N5
          replace hr : Hid (RI (Mi + 1) f = RI m e) := by
           have := hr.out
           rw [show (((M + 1 : Nat)) : Int) = Mi + 1 from by omega] at this; exact this
          replace hu : L = true ∨ Mi % 2 = 1 := hu.imp_right fun h => by omega
          rw [← hMi] at c1 ⊢
          clear hMi hq Mb
          by_cases hx : Mi = 16777215
          · subst hx
            replace hr : Hid (RI 8388608 (f + 1) = RI m e) := (RI_same 8388608 (f + 1) 16777216 f (by omega) 1 (by omega) (by omega) (by omega)).symm.trans hr.out
            cases L
            all_goals
             go_wp2
             go_loop [1, 2] (fun mv ev => ∃ a g : Int, mv = .int .i64 a ∧ ev = .int .i64 g ∧ 0 ≤ a ∧ a < 16777216 ∧ -149 ≤ g ∧ g ≤ 1000 ∧ Hid (RI a g = RI m e)) (fun _ ev => (intOf ev + 149).toNat)
             case atStart => exact ⟨_, _, rfl, rfl, by omega, by omega, by omega, by omega, hr⟩
             case round =>
              clear hr
              obtain ⟨a, g, rfl, rfl, a0, a1, g0, g1, ha⟩ := hrel
              have hsm : Hid _ := RI_same a g (2 * a) (g - 1) a0 1 (by omega) (by omega) (by omega)
              by_cases d : 0 < a ∧ a < 8388608 ∧ -149 < g
              · obtain ⟨d1, d2, d3⟩ := d
                go_wp2
                go_round
                case rel => exact ⟨2 * a, g - 1, rfl, rfl, by omega, by omega, by omega, by omega, hsm.out.trans ha.out⟩
                case measure => simp [intOf]; omega
              · clear hsm
                by_cases e1 : a < 8388608
                · have hl : Hid _ := (RI_low a g a0 e1 (by omega)).symm.trans ha.out
                  clear ha
                  by_cases e2 : 0 < a
                  all_goals
                   go_wp2_with (first | (go_at_call 72; refine (signed_any _ _ _ (by omega) (by omega)).mono ?_; rintro e w' ⟨rfl, rfl⟩))
                   go_ret
                   refine ⟨congrArg Ending.returned (congrArg (Value.int IntKind.i64) ?_), rfl⟩
                   rw [← hl.out]
                · have hl : Hid _ := (RI_high a g (by omega) a1 g0).symm.trans ha.out
                  clear ha d
                  have e2 : 0 < a := by omega
                  by_cases e3 : 255 ≤ g + 150
                  all_goals
                   go_wp2_with (first | (go_at_call 72; refine (signed_any _ _ _ (by omega) (by omega)).mono ?_; rintro e w' ⟨rfl, rfl⟩))
                   go_ret
                   refine ⟨congrArg Ending.returned (congrArg (Value.int IntKind.i64) ?_), rfl⟩
                   rw [← hl.out]
                   omega
          · have d1 : (Mi + 1 == 16777216) = false := by simp only [beq_eq_false_iff_ne, ne_eq]; omega
            have m9 : Mi < 16777215 := by omega
            clear hx
            cases L
            · have o1 : (Mi % 2 == 1) = true := by simp only [beq_iff_eq]; simpa using hu
              clear hu
              go_wp2
              go_loop [1, 2] (fun mv ev => ∃ a g : Int, mv = .int .i64 a ∧ ev = .int .i64 g ∧ 0 ≤ a ∧ a < 16777216 ∧ -149 ≤ g ∧ g ≤ 1000 ∧ Hid (RI a g = RI m e)) (fun _ ev => (intOf ev + 149).toNat)
              case atStart => exact ⟨_, _, rfl, rfl, by omega, by omega, by omega, by omega, hr⟩
              case round =>
               clear hr
               obtain ⟨a, g, rfl, rfl, a0, a1, g0, g1, ha⟩ := hrel
               have hsm : Hid _ := RI_same a g (2 * a) (g - 1) a0 1 (by omega) (by omega) (by omega)
               by_cases d : 0 < a ∧ a < 8388608 ∧ -149 < g
               · obtain ⟨d1, d2, d3⟩ := d
                 go_wp2
                 go_round
                 case rel => exact ⟨2 * a, g - 1, rfl, rfl, by omega, by omega, by omega, by omega, hsm.out.trans ha.out⟩
                 case measure => simp [intOf]; omega
               · clear hsm
                 by_cases e1 : a < 8388608
                 · have hl : Hid _ := (RI_low a g a0 e1 (by omega)).symm.trans ha.out
                   clear ha
                   by_cases e2 : 0 < a
                   all_goals
                    go_wp2_with (first | (go_at_call 72; refine (signed_any _ _ _ (by omega) (by omega)).mono ?_; rintro e w' ⟨rfl, rfl⟩))
                    go_ret
                    refine ⟨congrArg Ending.returned (congrArg (Value.int IntKind.i64) ?_), rfl⟩
                    rw [← hl.out]
                 · have hl : Hid _ := (RI_high a g (by omega) a1 g0).symm.trans ha.out
                   clear ha d
                   have e2 : 0 < a := by omega
                   by_cases e3 : 255 ≤ g + 150
                   all_goals
                    go_wp2_with (first | (go_at_call 72; refine (signed_any _ _ _ (by omega) (by omega)).mono ?_; rintro e w' ⟨rfl, rfl⟩))
                    go_ret
                    refine ⟨congrArg Ending.returned (congrArg (Value.int IntKind.i64) ?_), rfl⟩
                    rw [← hl.out]
                    omega
            · go_wp2
              go_loop [1, 2] (fun mv ev => ∃ a g : Int, mv = .int .i64 a ∧ ev = .int .i64 g ∧ 0 ≤ a ∧ a < 16777216 ∧ -149 ≤ g ∧ g ≤ 1000 ∧ Hid (RI a g = RI m e)) (fun _ ev => (intOf ev + 149).toNat)
              case atStart => exact ⟨_, _, rfl, rfl, by omega, by omega, by omega, by omega, hr⟩
              case round =>
               clear hr
               obtain ⟨a, g, rfl, rfl, a0, a1, g0, g1, ha⟩ := hrel
               have hsm : Hid _ := RI_same a g (2 * a) (g - 1) a0 1 (by omega) (by omega) (by omega)
               by_cases d : 0 < a ∧ a < 8388608 ∧ -149 < g
               · obtain ⟨d1, d2, d3⟩ := d
                 go_wp2
                 go_round
                 case rel => exact ⟨2 * a, g - 1, rfl, rfl, by omega, by omega, by omega, by omega, hsm.out.trans ha.out⟩
                 case measure => simp [intOf]; omega
               · clear hsm
                 by_cases e1 : a < 8388608
                 · have hl : Hid _ := (RI_low a g a0 e1 (by omega)).symm.trans ha.out
                   clear ha
                   by_cases e2 : 0 < a
                   all_goals
                    go_wp2_with (first | (go_at_call 72; refine (signed_any _ _ _ (by omega) (by omega)).mono ?_; rintro e w' ⟨rfl, rfl⟩))
                    go_ret
                    refine ⟨congrArg Ending.returned (congrArg (Value.int IntKind.i64) ?_), rfl⟩
                    rw [← hl.out]
                 · have hl : Hid _ := (RI_high a g (by omega) a1 g0).symm.trans ha.out
                   clear ha d
                   have e2 : 0 < a := by omega
                   by_cases e3 : 255 ≤ g + 150
                   all_goals
                    go_wp2_with (first | (go_at_call 72; refine (signed_any _ _ _ (by omega) (by omega)).mono ?_; rintro e w' ⟨rfl, rfl⟩))
                    go_ret
                    refine ⟨congrArg Ending.returned (congrArg (Value.int IntKind.i64) ?_), rfl⟩
                    rw [← hl.out]
                    omega
        · rw [if_neg (fun h => hu h.2)] at N5
          obtain rfl : q = M := by omega
          have l1 : L = false := by
           cases L
           · rfl
           · exact absurd (.inl rfl) hu
          subst l1
          have o1 : (Mi % 2 == 1) = false := by simp only [beq_eq_false_iff_ne, ne_eq]; omega
          rw [← hMi] at c1 hr ⊢
          clear hMi hq Mb hu N5
          have d1 : (Mi == 16777216) = false := by simp only [beq_eq_false_iff_ne, ne_eq]; omega
          go_wp2
          go_loop [1, 2] (fun mv ev => ∃ a g : Int, mv = .int .i64 a ∧ ev = .int .i64 g ∧ 0 ≤ a ∧ a < 16777216 ∧ -149 ≤ g ∧ g ≤ 1000 ∧ Hid (RI a g = RI m e)) (fun _ ev => (intOf ev + 149).toNat)
          case atStart => exact ⟨_, _, rfl, rfl, by omega, by omega, by omega, by omega, hr⟩
          case round =>
           clear hr
           obtain ⟨a, g, rfl, rfl, a0, a1, g0, g1, ha⟩ := hrel
           have hsm : Hid _ := RI_same a g (2 * a) (g - 1) a0 1 (by omega) (by omega) (by omega)
           by_cases d : 0 < a ∧ a < 8388608 ∧ -149 < g
           · obtain ⟨d1, d2, d3⟩ := d
             go_wp2
             go_round
             case rel => exact ⟨2 * a, g - 1, rfl, rfl, by omega, by omega, by omega, by omega, hsm.out.trans ha.out⟩
             case measure => simp [intOf]; omega
           · clear hsm
             by_cases e1 : a < 8388608
             · have hl : Hid _ := (RI_low a g a0 e1 (by omega)).symm.trans ha.out
               clear ha
               by_cases e2 : 0 < a
               all_goals
                go_wp2_with (first | (go_at_call 72; refine (signed_any _ _ _ (by omega) (by omega)).mono ?_; rintro e w' ⟨rfl, rfl⟩))
                go_ret
                refine ⟨congrArg Ending.returned (congrArg (Value.int IntKind.i64) ?_), rfl⟩
                rw [← hl.out]
             · have hl : Hid _ := (RI_high a g (by omega) a1 g0).symm.trans ha.out
               clear ha d
               have e2 : 0 < a := by omega
               by_cases e3 : 255 ≤ g + 150
               all_goals
                go_wp2_with (first | (go_at_call 72; refine (signed_any _ _ _ (by omega) (by omega)).mono ?_; rintro e w' ⟨rfl, rfl⟩))
                go_ret
                refine ⟨congrArg Ending.returned (congrArg (Value.int IntKind.i64) ?_), rfl⟩
                rw [← hl.out]
                omega
end Go.Proofs.YtoihkljlekknkaaGreat
/-
  What soft.rounded answers: the pattern that a whole number times a power of 2 rounds to, with its sign. Conditions: the whole number fits uint64, the power is -900 to 900.
-/
namespace Go.Proofs.YtoihkljlekknkaaGreat
open Go.RowKit
theorem rne_bd (m d : Int) (h : (bl m.toNat : Int) - 24 ≤ d) : rne m.toNat d.toNat ≤ 16777216 := by
 apply rne_le
 refine Nat.lt_of_lt_of_le (bl_lt m.toNat) ?_
 rw [show (16777216 : Nat) = 2 ^ 24 from rfl, ← Nat.pow_add]
 exact Nat.pow_le_pow_right (by decide) (by omega)
theorem lift_wrap (m d : Int) (h0 : 0 ≤ m) (h : m.toNat * 2 ^ (-d).toNat < 16777216) : IntKind.u64.wrap (m * 2 ^ (-d).toNat) = ((m.toNat * 2 ^ (-d).toNat : Nat) : Int) := by
 have e : m * 2 ^ (-d).toNat = ((m.toNat * 2 ^ (-d).toNat : Nat) : Int) := by
  rw [pow_cast, Int.natCast_mul, Int.toNat_of_nonneg h0]
 rw [e, u64_small _ (by omega) (by omega)]
set_option maxHeartbeats 1000000 in
theorem rounded_1 (s m p : Int) (w : World) (hs : s = 0 ∨ s = 2147483648) (h0 : 0 ≤ m) (h1 : m < 18446744073709551616) (h2 : -900 ≤ p) (h3 : p ≤ 900)
 (hA : (bl m.toNat : Int) - 24 < -149 - p) (hd : 0 < -149 - p) :
 Calls Tryz.prog 97 #[.int .u32 s, .int .u64 m, .int .i64 p] w fun e w' => e = .returned (.int .u32 (s + RI m p)) ∧ w' = w := by
 have hb := bl_le64 m h0 h1
 obtain ⟨k1, k2⟩ := RI_drop m p (-149 - p) hd (by omega) (by omega) (.inr rfl) h2
 have hr := rne_bd m (-149 - p) (by omega)
 by_cases hz : rne m.toNat (-149 - p).toNat = 0
 · rw [k2 hz]
   clear k1 k2
   go_enter Tryz.func97, Tryz.ntmps97
   go_wp2_with (first | (go_at_call 119; refine (len64_any _ _ h0 h1).mono ?_; rintro e w' ⟨rfl, rfl⟩) | (go_at_call 120; refine (shifted_any _ _ _ (by assumption) (by assumption) (by omega)).mono ?_; rintro e w' ⟨rfl, rfl⟩))
   go_ret
   exact ⟨ret_int (by omega), rfl⟩
 · rw [k1]
   have hz' : ((rne m.toNat (-149 - p).toNat : Int) == 0) = false := by simpa using hz
   clear k1 k2 hz
   go_enter Tryz.func97, Tryz.ntmps97
   go_wp2_with (first | (go_at_call 119; refine (len64_any _ _ h0 h1).mono ?_; rintro e w' ⟨rfl, rfl⟩) | (go_at_call 120; refine (shifted_any _ _ _ (by assumption) (by assumption) (by omega)).mono ?_; rintro e w' ⟨rfl, rfl⟩))
   all_goals (go_ret; refine ⟨congrArg Ending.returned (congrArg (Value.int IntKind.u32) ?_), rfl⟩; rw [or_sign s _ hs (by omega) (by omega)]; omega)
set_option maxHeartbeats 1000000 in
theorem rounded_2 (s m p : Int) (w : World) (hs : s = 0 ∨ s = 2147483648) (h0 : 0 ≤ m) (h1 : m < 18446744073709551616) (h2 : -900 ≤ p) (h3 : p ≤ 900)
 (hA : ¬ (bl m.toNat : Int) - 24 < -149 - p) (hd : 0 < (bl m.toNat : Int) - 24) :
 Calls Tryz.prog 97 #[.int .u32 s, .int .u64 m, .int .i64 p] w fun e w' => e = .returned (.int .u32 (s + RI m p)) ∧ w' = w := by
 have hb := bl_le64 m h0 h1
 obtain ⟨k1, k2⟩ := RI_drop m p (bl m.toNat - 24) hd (by omega) (by omega) (.inl rfl) h2
 have hr := rne_bd m (bl m.toNat - 24) (by omega)
 rw [show ((bl m.toNat : Int) - 24).toNat = bl m.toNat - 24 from by omega] at k1 k2 hr
 by_cases hz : rne m.toNat (bl m.toNat - 24) = 0
 · rw [k2 hz]
   clear k1 k2
   go_enter Tryz.func97, Tryz.ntmps97
   go_wp2_with (first | (go_at_call 119; refine (len64_any _ _ h0 h1).mono ?_; rintro e w' ⟨rfl, rfl⟩) | (go_at_call 120; refine (shifted_any _ _ _ (by assumption) (by assumption) (by omega)).mono ?_; rintro e w' ⟨rfl, rfl⟩))
   go_ret
   exact ⟨ret_int (by omega), rfl⟩
 · rw [k1]
   have hz' : ((rne m.toNat (bl m.toNat - 24) : Int) == 0) = false := by simpa using hz
   clear k1 k2 hz
   go_enter Tryz.func97, Tryz.ntmps97
   go_wp2_with (first | (go_at_call 119; refine (len64_any _ _ h0 h1).mono ?_; rintro e w' ⟨rfl, rfl⟩) | (go_at_call 120; refine (shifted_any _ _ _ (by assumption) (by assumption) (by omega)).mono ?_; rintro e w' ⟨rfl, rfl⟩))
   all_goals (go_ret; refine ⟨congrArg Ending.returned (congrArg (Value.int IntKind.u32) ?_), rfl⟩; rw [or_sign s _ hs (by omega) (by omega)]; omega)
set_option maxHeartbeats 1000000 in
theorem rounded_3 (s m p : Int) (w : World) (hs : s = 0 ∨ s = 2147483648) (h0 : 0 ≤ m) (h1 : m < 18446744073709551616) (h2 : -900 ≤ p) (h3 : p ≤ 900)
 (hA : (bl m.toNat : Int) - 24 < -149 - p) (hd : ¬ 0 < -149 - p) (hm : m.toNat ≠ 0) :
 Calls Tryz.prog 97 #[.int .u32 s, .int .u64 m, .int .i64 p] w fun e w' => e = .returned (.int .u32 (s + RI m p)) ∧ w' = w := by
 have hb := bl_le64 m h0 h1
 obtain ⟨k1, k2⟩ := RI_lift m p (-149 - p) (by omega) (by omega) (by omega) (.inr rfl) hm h2
 have e := lift_wrap m (-149 - p) h0 k2
 have hz : m.toNat * 2 ^ (-(-149 - p)).toNat ≠ 0 := Nat.mul_ne_zero hm (Nat.pos_iff_ne_zero.1 (pow_pos' _))
 rw [k1]
 clear k1
 generalize m.toNat * 2 ^ (-(-149 - p)).toNat = q at *
 have hz' : ((q : Int) == 0) = false := by simpa using hz
 go_enter Tryz.func97, Tryz.ntmps97
 go_wp2_with (first | (go_at_call 119; refine (len64_any _ _ h0 h1).mono ?_; rintro e w' ⟨rfl, rfl⟩))
 all_goals (go_ret; refine ⟨congrArg Ending.returned (congrArg (Value.int IntKind.u32) ?_), rfl⟩; rw [or_sign s _ hs (by omega) (by omega)]; omega)
set_option maxHeartbeats 1000000 in
theorem rounded_4 (s m p : Int) (w : World) (hs : s = 0 ∨ s = 2147483648) (h0 : 0 ≤ m) (h1 : m < 18446744073709551616) (h2 : -900 ≤ p) (h3 : p ≤ 900)
 (hA : ¬ (bl m.toNat : Int) - 24 < -149 - p) (hd : ¬ 0 < (bl m.toNat : Int) - 24) (hm : m.toNat ≠ 0) :
 Calls Tryz.prog 97 #[.int .u32 s, .int .u64 m, .int .i64 p] w fun e w' => e = .returned (.int .u32 (s + RI m p)) ∧ w' = w := by
 have hb := bl_le64 m h0 h1
 obtain ⟨k1, k2⟩ := RI_lift m p (bl m.toNat - 24) (by omega) (by omega) (by omega) (.inl rfl) hm h2
 have e := lift_wrap m (bl m.toNat - 24) h0 k2
 have hz : m.toNat * 2 ^ (-((bl m.toNat : Int) - 24)).toNat ≠ 0 := Nat.mul_ne_zero hm (Nat.pos_iff_ne_zero.1 (pow_pos' _))
 rw [k1]
 clear k1
 generalize m.toNat * 2 ^ (-((bl m.toNat : Int) - 24)).toNat = q at *
 have hz' : ((q : Int) == 0) = false := by simpa using hz
 go_enter Tryz.func97, Tryz.ntmps97
 go_wp2_with (first | (go_at_call 119; refine (len64_any _ _ h0 h1).mono ?_; rintro e w' ⟨rfl, rfl⟩))
 all_goals (go_ret; refine ⟨congrArg Ending.returned (congrArg (Value.int IntKind.u32) ?_), rfl⟩; rw [or_sign s _ hs (by omega) (by omega)]; omega)
theorem zero_wrap (x : Nat) : IntKind.u64.wrap (0 * 2 ^ x) = 0 := by rw [Int.zero_mul]; rfl
set_option maxHeartbeats 1000000 in
theorem rounded_5 (s p : Int) (w : World) (hd : -149 ≤ p) (h3 : p ≤ 900) :
 Calls Tryz.prog 97 #[.int .u32 s, .int .u64 0, .int .i64 p] w fun e w' => e = .returned (.int .u32 (s + RI 0 p)) ∧ w' = w := by
 rw [RI_zero]
 have hb : bl 0 = 0 := rfl
 by_cases hA : (-24 : Int) < -149 - p
 all_goals
  go_enter Tryz.func97, Tryz.ntmps97
  go_wp2_with (first | (go_at_call 119; refine (len64_any _ _ (by omega) (by omega)).mono ?_; rintro e w' ⟨rfl, rfl⟩))
  go_ret
  exact ⟨ret_int (by omega), rfl⟩
theorem rounded_any (s m p : Int) (w : World) (hs : s = 0 ∨ s = 2147483648) (h0 : 0 ≤ m) (h1 : m < 18446744073709551616) (h2 : -900 ≤ p) (h3 : p ≤ 900) :
 Calls Tryz.prog 97 #[.int .u32 s, .int .u64 m, .int .i64 p] w fun e w' => e = .returned (.int .u32 (s + RI m p)) ∧ w' = w := by
 by_cases hA : (bl m.toNat : Int) - 24 < -149 - p
 · by_cases hd : 0 < -149 - p
   · exact rounded_1 s m p w hs h0 h1 h2 h3 hA hd
   · by_cases hm : m.toNat = 0
     · obtain rfl : m = 0 := by omega
       exact rounded_5 s p w (by omega) h3
     · exact rounded_3 s m p w hs h0 h1 h2 h3 hA hd hm
 · by_cases hd : 0 < (bl m.toNat : Int) - 24
   · exact rounded_2 s m p w hs h0 h1 h2 h3 hA hd
   · by_cases hm : m.toNat = 0
     · obtain rfl : m = 0 := by omega
       exact rounded_5 s p w (by omega) h3
     · exact rounded_4 s m p w hs h0 h1 h2 h3 hA hd hm
end Go.Proofs.YtoihkljlekknkaaGreat
/-
  What soft.Add and soft.Sub answer, for every two patterns: P2 of the document. No condition.
-/
namespace Go.Proofs.YtoihkljlekknkaaGreat
open Go.RowKit
theorem shl_gap (m : Int) (g : Int) (h0 : 0 ≤ m) (h1 : m < 16777216) (g0 : 0 ≤ g) (g1 : g ≤ 32) : IntKind.u64.wrap (m * 2 ^ g.toNat) = m * 2 ^ g.toNat ∧ 0 ≤ m * 2 ^ g.toNat ∧ m * 2 ^ g.toNat < 72057594037927936 := by
 have h : (2 : Int) ^ g.toNat ≤ 4294967296 := by
  rw [pow_cast]
  have := Nat.pow_le_pow_right (n := 2) (by decide) (show g.toNat ≤ 32 by omega)
  omega
 have hp : (0 : Int) < 2 ^ g.toNat := by rw [pow_cast]; have := pow_pos' g.toNat; omega
 have a : 0 ≤ m * 2 ^ g.toNat := Int.mul_nonneg h0 (by omega)
 have b : m * 2 ^ g.toNat ≤ 16777215 * 4294967296 := Int.mul_le_mul (by omega) h (by omega) (by omega)
 exact ⟨u64_small _ a (by omega), a, by omega⟩
set_option maxHeartbeats 1000000 in
theorem sum_ge (a b : Int) (w : World) (h0 : 0 ≤ a) (h1 : a < 4294967296) (g0 : 0 ≤ b) (g1 : b < 4294967296) (ha : a % 2147483648 < 2139095040) (hb : b % 2147483648 < 2139095040)
 (hs : ¬ a % 2147483648 < b % 2147483648) :
 Calls Tryz.prog 94 #[.int .u32 a, .int .u32 b] w fun e w' => e = .returned (.int .u32 (ADDf a b)) ∧ w' = w := by
 have xa := exI_bd a
 have xb := exI_bd b
 have ma := manI_bd a
 have mb := manI_bd b
 have hle : exI b ≤ exI a := by unfold exI; split <;> split <;> omega
 have s1 := and_sign a h0 h1
 have s2 := and_sign b g0 g1
 by_cases hg : 32 < exI a - exI b
 · rw [ADDf_far a b h0 h1 g0 g1 (by unfold sz; omega) (by omega) (by unfold sz; omega)]
   go_enter Tryz.func94, Tryz.ntmps94
   go_wp2_with (first | (go_at_call 118; refine (size_any _ _ (by assumption) (by assumption)).mono ?_; rintro e w' ⟨rfl, rfl⟩) | (go_at_call 99; refine (parts_any _ _ (by assumption) (by assumption)).mono ?_; rintro e w' ⟨rfl, rfl⟩))
   go_ret
   exact ⟨rfl, rfl⟩
 · obtain ⟨r1, r2, r3, r4⟩ := RI_sum a b hle
   obtain ⟨t1, t2, t3⟩ := shl_gap (manI a) (exI a - exI b) ma.1 ma.2 (by omega) (by omega)
   obtain ⟨M, hM⟩ : ∃ M, M = manI a * 2 ^ (exI a - exI b).toNat := ⟨_, rfl⟩
   replace t1 := t1.trans hM.symm
   rw [← hM] at r1 r2 r3 r4 t2 t3
   clear hM
   have hvv : val (sz b) ≤ val (sz a) := val_le (by unfold sz; omega)
   replace r4 := r4 (by unfold sz; omega)
   by_cases hd : a / 2147483648 = b / 2147483648
   · rw [← ADDf_same a b hd h0 h1, ← r1]
     have hd' : (a / 2147483648 * 2147483648 == b / 2147483648 * 2147483648) = true := by rw [hd]; simp
     clear r1 r2 r3 r4 hvv hd
     go_enter Tryz.func94, Tryz.ntmps94
     go_wp2_with (first | (go_at_call 118; refine (size_any _ _ (by assumption) (by assumption)).mono ?_; rintro e w' ⟨rfl, rfl⟩) | (go_at_call 99; refine (parts_any _ _ (by assumption) (by assumption)).mono ?_; rintro e w' ⟨rfl, rfl⟩) | (go_at_call 97; refine (rounded_any _ _ _ _ (by omega) (by omega) (by omega) (by omega) (by omega)).mono ?_; rintro e w' ⟨rfl, rfl⟩))
     go_ret
     refine ⟨congrArg Ending.returned (congrArg (Value.int IntKind.u32) ?_), rfl⟩
     rfl
   · have hd' : (a / 2147483648 * 2147483648 == b / 2147483648 * 2147483648) = false := by
      simp only [beq_eq_false_iff_ne, ne_eq]; omega
     by_cases hv : val (sz a) = val (sz b)
     · rw [ADDf_null a b hd hv.symm h0 h1 g0 g1]
       have e := r3.2 hv
       have e' : (M == manI b) = true := by rw [e]; simp
       clear r1 r2 r3 r4 hvv hd hv e
       go_enter Tryz.func94, Tryz.ntmps94
       go_wp2_with (first | (go_at_call 118; refine (size_any _ _ (by assumption) (by assumption)).mono ?_; rintro e w' ⟨rfl, rfl⟩) | (go_at_call 99; refine (parts_any _ _ (by assumption) (by assumption)).mono ?_; rintro e w' ⟨rfl, rfl⟩))
       go_ret
       exact ⟨rfl, rfl⟩
     · rw [← ADDf_diff a b hd h0 h1 g0 g1 (by omega), ← r2 r4]
       have e' : (M == manI b) = false := by
        simp only [beq_eq_false_iff_ne, ne_eq]; exact fun h => hv (r3.1 h)
       clear r1 r2 r3 hvv hd hv
       go_enter Tryz.func94, Tryz.ntmps94
       go_wp2_with (first | (go_at_call 118; refine (size_any _ _ (by assumption) (by assumption)).mono ?_; rintro e w' ⟨rfl, rfl⟩) | (go_at_call 99; refine (parts_any _ _ (by assumption) (by assumption)).mono ?_; rintro e w' ⟨rfl, rfl⟩) | (go_at_call 97; refine (rounded_any _ _ _ _ (by omega) (by omega) (by omega) (by omega) (by omega)).mono ?_; rintro e w' ⟨rfl, rfl⟩))
       go_ret
       exact ⟨rfl, rfl⟩
set_option maxHeartbeats 1000000 in
theorem sum_lt (a b : Int) (w : World) (h0 : 0 ≤ a) (h1 : a < 4294967296) (g0 : 0 ≤ b) (g1 : b < 4294967296) (ha : a % 2147483648 < 2139095040) (hb : b % 2147483648 < 2139095040)
 (hs : b % 2147483648 < a % 2147483648) :
 Calls Tryz.prog 94 #[.int .u32 b, .int .u32 a] w fun e w' => e = .returned (.int .u32 (ADDf a b)) ∧ w' = w := by
 have xa := exI_bd a
 have xb := exI_bd b
 have ma := manI_bd a
 have mb := manI_bd b
 have hle : exI b ≤ exI a := by unfold exI; split <;> split <;> omega
 have s1 := and_sign a h0 h1
 have s2 := and_sign b g0 g1
 by_cases hg : 32 < exI a - exI b
 · rw [ADDf_far a b h0 h1 g0 g1 (by unfold sz; omega) (by omega) (by unfold sz; omega)]
   go_enter Tryz.func94, Tryz.ntmps94
   go_wp2_with (first | (go_at_call 118; refine (size_any _ _ (by assumption) (by assumption)).mono ?_; rintro e w' ⟨rfl, rfl⟩) | (go_at_call 99; refine (parts_any _ _ (by assumption) (by assumption)).mono ?_; rintro e w' ⟨rfl, rfl⟩))
   go_ret
   exact ⟨rfl, rfl⟩
 · obtain ⟨r1, r2, r3, r4⟩ := RI_sum a b hle
   obtain ⟨t1, t2, t3⟩ := shl_gap (manI a) (exI a - exI b) ma.1 ma.2 (by omega) (by omega)
   obtain ⟨M, hM⟩ : ∃ M, M = manI a * 2 ^ (exI a - exI b).toNat := ⟨_, rfl⟩
   replace t1 := t1.trans hM.symm
   rw [← hM] at r1 r2 r3 r4 t2 t3
   clear hM
   have hvv : val (sz b) ≤ val (sz a) := val_le (by unfold sz; omega)
   replace r4 := r4 (by unfold sz; omega)
   by_cases hd : a / 2147483648 = b / 2147483648
   · rw [← ADDf_same a b hd h0 h1, ← r1]
     have hd' : (a / 2147483648 * 2147483648 == b / 2147483648 * 2147483648) = true := by rw [hd]; simp
     clear r1 r2 r3 r4 hvv hd
     go_enter Tryz.func94, Tryz.ntmps94
     go_wp2_with (first | (go_at_call 118; refine (size_any _ _ (by assumption) (by assumption)).mono ?_; rintro e w' ⟨rfl, rfl⟩) | (go_at_call 99; refine (parts_any _ _ (by assumption) (by assumption)).mono ?_; rintro e w' ⟨rfl, rfl⟩) | (go_at_call 97; refine (rounded_any _ _ _ _ (by omega) (by omega) (by omega) (by omega) (by omega)).mono ?_; rintro e w' ⟨rfl, rfl⟩))
     go_ret
     exact ⟨rfl, rfl⟩
   · have hd' : (a / 2147483648 * 2147483648 == b / 2147483648 * 2147483648) = false := by
      simp only [beq_eq_false_iff_ne, ne_eq]; omega
     by_cases hv : val (sz a) = val (sz b)
     · rw [ADDf_null a b hd hv.symm h0 h1 g0 g1]
       have e := r3.2 hv
       have e' : (M == manI b) = true := by rw [e]; simp
       clear r1 r2 r3 r4 hvv hd hv e
       go_enter Tryz.func94, Tryz.ntmps94
       go_wp2_with (first | (go_at_call 118; refine (size_any _ _ (by assumption) (by assumption)).mono ?_; rintro e w' ⟨rfl, rfl⟩) | (go_at_call 99; refine (parts_any _ _ (by assumption) (by assumption)).mono ?_; rintro e w' ⟨rfl, rfl⟩))
       go_ret
       exact ⟨rfl, rfl⟩
     · rw [← ADDf_diff a b hd h0 h1 g0 g1 (by omega), ← r2 r4]
       have e' : (M == manI b) = false := by
        simp only [beq_eq_false_iff_ne, ne_eq]; exact fun h => hv (r3.1 h)
       clear r1 r2 r3 hvv hd hv
       go_enter Tryz.func94, Tryz.ntmps94
       go_wp2_with (first | (go_at_call 118; refine (size_any _ _ (by assumption) (by assumption)).mono ?_; rintro e w' ⟨rfl, rfl⟩) | (go_at_call 99; refine (parts_any _ _ (by assumption) (by assumption)).mono ?_; rintro e w' ⟨rfl, rfl⟩) | (go_at_call 97; refine (rounded_any _ _ _ _ (by omega) (by omega) (by omega) (by omega) (by omega)).mono ?_; rintro e w' ⟨rfl, rfl⟩))
       go_ret
       exact ⟨rfl, rfl⟩
theorem sum_any (a b : Int) (w : World) (h0 : 0 ≤ a) (h1 : a < 4294967296) (g0 : 0 ≤ b) (g1 : b < 4294967296) (ha : a % 2147483648 < 2139095040) (hb : b % 2147483648 < 2139095040) :
 Calls Tryz.prog 94 #[.int .u32 a, .int .u32 b] w fun e w' => e = .returned (.int .u32 (ADDf a b)) ∧ w' = w := by
 by_cases hs : a % 2147483648 < b % 2147483648
 · rw [ADDf_comm]; exact sum_lt b a w g0 g1 h0 h1 hb ha hs
 · exact sum_ge a b w h0 h1 g0 g1 ha hb hs
theorem ADDf_bd (a b : Int) : 0 ≤ ADDf a b ∧ ADDf a b < 4294967296 := by
 unfold ADDf
 split
 · have := RZ_bd (-(sv a + sv b)).toNat; omega
 · split
   · omega
   · have := RZ_bd (sv a + sv b).toNat; omega
/-- P2 -/
def ADD (a b : Int) : Int :=
 if isNone a = true ∨ isNone b = true then 2143289344
 else if isInf a = true then (if b = (a + 2147483648) % 4294967296 then 2143289344 else a)
 else if isInf b = true then b else ADDf a b
set_option maxHeartbeats 1000000 in
theorem add_any (a b : Int) (w : World) (h0 : 0 ≤ a) (h1 : a < 4294967296) (g0 : 0 ≤ b) (g1 : b < 4294967296) :
 Calls Tryz.prog 56 #[.int .u32 a, .int .u32 b] w fun e w' => e = .returned (.int .u32 (ADD a b)) ∧ w' = w := by
 unfold ADD
 by_cases na : 2139095040 < a % 2147483648
 · have n1 := isNone_t na
   rw [if_pos (.inl n1)]
   go_enter Tryz.func56, Tryz.ntmps56
   go_wp2_with (first | (go_at_call 91; refine (none_any _ _ (by assumption) (by assumption)).mono ?_; rintro e w' ⟨rfl, rfl⟩) | (go_at_call 92; refine (inf_any _ _ (by assumption) (by assumption)).mono ?_; rintro e w' ⟨rfl, rfl⟩) | (go_at_call 93; refine (turned_any _ _ (by assumption) (by assumption)).mono ?_; rintro e w' ⟨rfl, rfl⟩) | (go_at_call 94; refine (sum_any _ _ _ (by assumption) (by assumption) (by assumption) (by assumption) (by omega) (by omega)).mono ?_; rintro e w' ⟨rfl, rfl⟩))
   go_ret
   exact ⟨rfl, rfl⟩
 · have n1 := isNone_f na
   by_cases nb : 2139095040 < b % 2147483648
   · have n2 := isNone_t nb
     rw [if_pos (.inr n2)]
     go_enter Tryz.func56, Tryz.ntmps56
     go_wp2_with (first | (go_at_call 91; refine (none_any _ _ (by assumption) (by assumption)).mono ?_; rintro e w' ⟨rfl, rfl⟩) | (go_at_call 92; refine (inf_any _ _ (by assumption) (by assumption)).mono ?_; rintro e w' ⟨rfl, rfl⟩) | (go_at_call 93; refine (turned_any _ _ (by assumption) (by assumption)).mono ?_; rintro e w' ⟨rfl, rfl⟩) | (go_at_call 94; refine (sum_any _ _ _ (by assumption) (by assumption) (by assumption) (by assumption) (by omega) (by omega)).mono ?_; rintro e w' ⟨rfl, rfl⟩))
     go_ret
     exact ⟨rfl, rfl⟩
   · have n2 := isNone_f nb
     rw [if_neg (by simp [n1, n2])]
     by_cases ia : a % 2147483648 = 2139095040
     · have i1 := isInf_t ia
       rw [if_pos i1]
       clear ia
       by_cases hb : b = (a + 2147483648) % 4294967296
       · have hb' : (b == (a + 2147483648) % 4294967296) = true := by simpa using hb
         rw [if_pos hb]
         clear hb
         go_enter Tryz.func56, Tryz.ntmps56
         go_wp2_with (first | (go_at_call 91; refine (none_any _ _ (by assumption) (by assumption)).mono ?_; rintro e w' ⟨rfl, rfl⟩) | (go_at_call 92; refine (inf_any _ _ (by assumption) (by assumption)).mono ?_; rintro e w' ⟨rfl, rfl⟩) | (go_at_call 93; refine (turned_any _ _ (by assumption) (by assumption)).mono ?_; rintro e w' ⟨rfl, rfl⟩) | (go_at_call 94; refine (sum_any _ _ _ (by assumption) (by assumption) (by assumption) (by assumption) (by omega) (by omega)).mono ?_; rintro e w' ⟨rfl, rfl⟩))
         go_ret
         exact ⟨rfl, rfl⟩
       · have hb' : (b == (a + 2147483648) % 4294967296) = false := by simpa using hb
         rw [if_neg hb]
         clear hb
         go_enter Tryz.func56, Tryz.ntmps56
         go_wp2_with (first | (go_at_call 91; refine (none_any _ _ (by assumption) (by assumption)).mono ?_; rintro e w' ⟨rfl, rfl⟩) | (go_at_call 92; refine (inf_any _ _ (by assumption) (by assumption)).mono ?_; rintro e w' ⟨rfl, rfl⟩) | (go_at_call 93; refine (turned_any _ _ (by assumption) (by assumption)).mono ?_; rintro e w' ⟨rfl, rfl⟩) | (go_at_call 94; refine (sum_any _ _ _ (by assumption) (by assumption) (by assumption) (by assumption) (by omega) (by omega)).mono ?_; rintro e w' ⟨rfl, rfl⟩))
         go_ret
         exact ⟨rfl, rfl⟩
     · have i1 := isInf_f ia
       rw [if_neg (by simp [i1])]
       by_cases ib : b % 2147483648 = 2139095040
       · have i2 := isInf_t ib
         rw [if_pos i2]
         clear ib
         go_enter Tryz.func56, Tryz.ntmps56
         go_wp2_with (first | (go_at_call 91; refine (none_any _ _ (by assumption) (by assumption)).mono ?_; rintro e w' ⟨rfl, rfl⟩) | (go_at_call 92; refine (inf_any _ _ (by assumption) (by assumption)).mono ?_; rintro e w' ⟨rfl, rfl⟩) | (go_at_call 93; refine (turned_any _ _ (by assumption) (by assumption)).mono ?_; rintro e w' ⟨rfl, rfl⟩) | (go_at_call 94; refine (sum_any _ _ _ (by assumption) (by assumption) (by assumption) (by assumption) (by omega) (by omega)).mono ?_; rintro e w' ⟨rfl, rfl⟩))
         go_ret
         exact ⟨rfl, rfl⟩
       · have i2 := isInf_f ib
         rw [if_neg (by simp [i2])]
         have ja : a % 2147483648 < 2139095040 := by omega
         have jb : b % 2147483648 < 2139095040 := by omega
         clear na nb ia ib
         go_enter Tryz.func56, Tryz.ntmps56
         go_wp2_with (first | (go_at_call 91; refine (none_any _ _ (by assumption) (by assumption)).mono ?_; rintro e w' ⟨rfl, rfl⟩) | (go_at_call 92; refine (inf_any _ _ (by assumption) (by assumption)).mono ?_; rintro e w' ⟨rfl, rfl⟩) | (go_at_call 93; refine (turned_any _ _ (by assumption) (by assumption)).mono ?_; rintro e w' ⟨rfl, rfl⟩) | (go_at_call 94; refine (sum_any _ _ _ (by assumption) (by assumption) (by assumption) (by assumption) (by omega) (by omega)).mono ?_; rintro e w' ⟨rfl, rfl⟩))
         go_ret
         exact ⟨rfl, rfl⟩
theorem ADD_bd (a b : Int) (h0 : 0 ≤ a) (h1 : a < 4294967296) (g0 : 0 ≤ b) (g1 : b < 4294967296) : 0 ≤ ADD a b ∧ ADD a b < 4294967296 := by
 have := ADDf_bd a b
 unfold ADD
 split
 · omega
 · split
   · split <;> omega
   · split <;> omega
/-- P2 -/
def SUB (a b : Int) : Int := ADD a ((b + 2147483648) % 4294967296)
set_option maxHeartbeats 1000000 in
theorem sub_any (a b : Int) (w : World) (h0 : 0 ≤ a) (h1 : a < 4294967296) (g0 : 0 ≤ b) (g1 : b < 4294967296) :
 Calls Tryz.prog 64 #[.int .u32 a, .int .u32 b] w fun e w' => e = .returned (.int .u32 (SUB a b)) ∧ w' = w := by
 unfold SUB
 go_enter Tryz.func64, Tryz.ntmps64
 go_wp2_with (first | (go_at_call 93; refine (turned_any _ _ (by assumption) (by assumption)).mono ?_; rintro e w' ⟨rfl, rfl⟩) | (go_at_call 56; refine (add_any _ _ _ (by omega) (by omega) (by omega) (by omega)).mono ?_; rintro e w' ⟨rfl, rfl⟩))
 go_ret
 exact ⟨rfl, rfl⟩
end Go.Proofs.YtoihkljlekknkaaGreat
