/-
  What Go's operations on bits say of whole numbers, at the constants of package soft. Conditions: the operands fit their kinds.
-/
import Derived.Test.YtnkgfoabadjboaaRows
import Derived.Test.YtnkgfoabadjboaaMath2
import Derived.WalkKit
import Derived.WalkSpells
import Derived.WalkLawsBesides
import Derived.Laws.BitsAllLaws
namespace Go.Proofs.Ytnkgfoabadjboaa
open Go.RowKit

theorem andNot_sign (a : Int) (h0 : 0 ≤ a) (h1 : a < 4294967296) : bits .andNot .u32 a 2147483648 = a % 2147483648 := by
  obtain ⟨n, rfl⟩ : ∃ n : Nat, a = n := ⟨a.toNat, by omega⟩
  have := u32_andNot_nat n 2147483648 (by omega) (by omega)
  rw [show ((2147483648 : Nat) : Int) = 2147483648 from rfl] at this
  rw [this, show 4294967295 - 2147483648 = 2 ^ 31 - 1 from rfl, Nat.and_two_pow_sub_one_eq_mod]; omega
theorem and_sign (a : Int) (h0 : 0 ≤ a) (h1 : a < 4294967296) : bits .and .u32 a 2147483648 = a / 2147483648 * 2147483648 := by
  obtain ⟨n, rfl⟩ : ∃ n : Nat, a = n := ⟨a.toNat, by omega⟩
  have := u32_and_nat n 2147483648 (by omega) (by omega)
  rw [show ((2147483648 : Nat) : Int) = 2147483648 from rfl] at this
  rw [this, show 2147483648 = 2 ^ 31 from rfl, nat_bit]; omega
theorem and_frac (a : Int) (h0 : 0 ≤ a) (h1 : a < 4294967296) : bits .and .u32 a 8388607 = a % 8388608 := by
  obtain ⟨n, rfl⟩ : ∃ n : Nat, a = n := ⟨a.toNat, by omega⟩
  have := u32_and_nat n 8388607 (by omega) (by omega)
  rw [show ((8388607 : Nat) : Int) = 8388607 from rfl] at this
  rw [this, show 8388607 = 2 ^ 23 - 1 from rfl, Nat.and_two_pow_sub_one_eq_mod]; omega
theorem or_23 (a : Int) (h0 : 0 ≤ a) (h1 : a < 8388608) : bits .or .u64 a 8388608 = a + 8388608 := by
  obtain ⟨n, rfl⟩ : ∃ n : Nat, a = n := ⟨a.toNat, by omega⟩
  have := u64_or_nat n 8388608 (by omega) (by omega)
  rw [show ((8388608 : Nat) : Int) = 8388608 from rfl] at this
  rw [this, Nat.or_comm, nat_join 23 8388608 n (by decide) (by omega)]; omega
theorem or_sign0 (p : Int) (h0 : 0 ≤ p) (h1 : p < 2147483648) : bits .or .u32 0 p = p := by
  obtain ⟨n, rfl⟩ : ∃ n : Nat, p = n := ⟨p.toNat, by omega⟩
  have := u32_or_nat 0 n (by omega) (by omega)
  rw [show ((0 : Nat) : Int) = 0 from rfl] at this
  rw [this, Nat.zero_or]
theorem or_sign1 (p : Int) (h0 : 0 ≤ p) (h1 : p < 2147483648) : bits .or .u32 2147483648 p = 2147483648 + p := by
  obtain ⟨n, rfl⟩ : ∃ n : Nat, p = n := ⟨p.toNat, by omega⟩
  have := u32_or_nat 2147483648 n (by omega) (by omega)
  rw [show ((2147483648 : Nat) : Int) = 2147483648 from rfl] at this
  rw [this, nat_join 31 2147483648 n (by decide) (by omega)]; omega
theorem or_sign (s p : Int) (hs : s = 0 ∨ s = 2147483648) (h0 : 0 ≤ p) (h1 : p < 2147483648) : bits .or .u32 s p = s + p := by
  rcases hs with rfl | rfl
  · rw [or_sign0 p h0 h1]; omega
  · exact or_sign1 p h0 h1
theorem xor_sign_nat (n : Nat) (h : n < 4294967296) : n ^^^ 2147483648 = (n + 2147483648) % 4294967296 := by
  by_cases hn : n < 2147483648
  · have : n ^^^ 2147483648 = 2147483648 ||| n := by
      rw [Nat.or_comm]
      apply Nat.eq_of_testBit_eq; intro i
      rw [Nat.testBit_xor, Nat.testBit_or, show 2147483648 = 2 ^ 31 from rfl, Nat.testBit_two_pow]
      by_cases hi : 31 = i
      · subst hi
        rw [Nat.testBit_lt_two_pow (show n < 2 ^ 31 by omega)]; rfl
      · simp [hi]
    rw [this, nat_join 31 2147483648 n (by decide) (by omega)]; omega
  · obtain ⟨r, rfl⟩ : ∃ r, n = 2147483648 + r := ⟨n - 2147483648, by omega⟩
    have e : 2147483648 + r = 2147483648 ^^^ r := by
      rw [← nat_join 31 2147483648 r (by decide) (by omega)]
      apply Nat.eq_of_testBit_eq; intro i
      rw [Nat.testBit_xor, Nat.testBit_or, show 2147483648 = 2 ^ 31 from rfl, Nat.testBit_two_pow]
      by_cases hi : 31 = i
      · subst hi
        rw [Nat.testBit_lt_two_pow (show r < 2 ^ 31 by omega)]; rfl
      · simp [hi]
    rw [e, Nat.xor_comm, ← Nat.xor_assoc, Nat.xor_self, Nat.zero_xor, ← e]; omega
theorem xor_sign (a : Int) (h0 : 0 ≤ a) (h1 : a < 4294967296) : bits .xor .u32 a 2147483648 = (a + 2147483648) % 4294967296 := by
  obtain ⟨n, rfl⟩ : ∃ n : Nat, a = n := ⟨a.toNat, by omega⟩
  have := u32_xor_nat n 2147483648 (by omega) (by omega)
  rw [show ((2147483648 : Nat) : Int) = 2147483648 from rfl] at this
  rw [this, xor_sign_nat n (by omega)]; omega
/-- the sign of a product -/
def sgn2 (a b : Int) : Int := if a / 2147483648 = b / 2147483648 then 0 else 2147483648
theorem and_xor_sign (a b : Int) (h0 : 0 ≤ a) (h1 : a < 4294967296) (g0 : 0 ≤ b) (g1 : b < 4294967296) : bits .and .u32 (bits .xor .u32 a b) 2147483648 = sgn2 a b := by
  obtain ⟨n, rfl⟩ : ∃ n : Nat, a = n := ⟨a.toNat, by omega⟩
  obtain ⟨m, rfl⟩ : ∃ m : Nat, b = m := ⟨b.toNat, by omega⟩
  have h := u32_xor_nat n m (by omega) (by omega)
  rw [h]
  have hx : n ^^^ m < 2 ^ 32 := Nat.xor_lt_two_pow (by omega) (by omega)
  have := u32_and_nat (n ^^^ m) 2147483648 (by omega) (by omega)
  rw [show ((2147483648 : Nat) : Int) = 2147483648 from rfl] at this
  rw [this, show 2147483648 = 2 ^ 31 from rfl, nat_bit]
  have hn : (n.testBit 31) = decide (n / 2147483648 = 1) := by
    rw [Nat.testBit_eq_decide_div_mod_eq]; congr 1; apply propext; omega
  have hm : (m.testBit 31) = decide (m / 2147483648 = 1) := by
    rw [Nat.testBit_eq_decide_div_mod_eq]; congr 1; apply propext; omega
  have hxt : ((n ^^^ m).testBit 31) = decide ((n ^^^ m) / 2 ^ 31 % 2 = 1) := Nat.testBit_eq_decide_div_mod_eq
  rw [Nat.testBit_xor, hn, hm] at hxt
  unfold sgn2
  by_cases a1 : n / 2147483648 = 1 <;> by_cases a2 : m / 2147483648 = 1 <;> simp [a1, a2] at hxt <;> split <;> omega
/-- a rest leaves a bit -/
def stick (q r : Int) : Int := if r = 0 then q else if q % 2 = 0 then q + 1 else q
theorem or_bit (q r : Int) (h0 : 0 ≤ q) (h1 : q < 18446744073709551616) (hr : 0 ≤ r) : bits .or .u64 q (min r 1) = stick q r := by
  obtain ⟨n, rfl⟩ : ∃ n : Nat, q = n := ⟨q.toNat, by omega⟩
  unfold stick
  by_cases h : r = 0
  · subst h
    have := u64_or_nat n 0 (by omega) (by omega)
    rw [show ((0 : Nat) : Int) = 0 from rfl] at this
    rw [show min (0 : Int) 1 = 0 from rfl, this, Nat.or_zero, if_pos rfl]
  · have := u64_or_nat n 1 (by omega) (by omega)
    rw [show ((1 : Nat) : Int) = 1 from rfl] at this
    rw [show min r 1 = 1 from by omega, this, if_neg h]
    have e : n ||| 1 = n / 2 * 2 + 1 := by
      have := nat_join 1 (n / 2 * 2) 1 (by omega) (by decide)
      rw [← this]
      apply Nat.eq_of_testBit_eq; intro i
      rw [Nat.testBit_or, Nat.testBit_or]
      cases i with
      | zero => simp
      | succ i => rw [Nat.testBit_succ, Nat.testBit_succ (x := n / 2 * 2)]; congr 2; omega
    rw [e]; split <;> omega
end Go.Proofs.Ytnkgfoabadjboaa
