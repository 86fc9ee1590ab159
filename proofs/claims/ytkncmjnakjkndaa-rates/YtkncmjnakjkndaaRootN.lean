/-
  What soft.root answers: the greatest whole number whose square is no more. Condition: the number fits uint64.
-/
import Derived.Test.YtkncmjnakjkndaaMulDiv
import Derived.Test.YtkncmjnakjkndaaMath5
namespace Go.Proofs.Ytkncmjnakjkndaa
open Go.RowKit
set_option linter.unusedVariables false
set_option linter.unusedSimpArgs false
/-- the root of a whole number, bit by bit -/
def isq : Nat → Nat → Nat → Nat
  | 0, _, r => r
  | j + 1, m, r => if (r + 2 ^ j) * (r + 2 ^ j) ≤ m then isq j m (r + 2 ^ j) else isq j m r
def rt (m : Nat) : Nat := isq 32 m 0
theorem isq_spec (j m r : Nat) (h1 : r * r ≤ m) (h2 : m < (r + 2 ^ j) * (r + 2 ^ j)) : isq j m r * isq j m r ≤ m ∧ m < (isq j m r + 1) * (isq j m r + 1) := by
  induction j generalizing r with
  | zero => exact ⟨h1, h2⟩
  | succ j ih =>
    unfold isq
    split
    · rename_i h
      refine ih _ h ?_
      rw [Nat.add_assoc, ← Nat.two_mul, Nat.mul_comm 2, ← Nat.pow_succ]; exact h2
    · rename_i h
      exact ih _ h1 (by omega)
theorem rt_spec (m : Nat) (h : m < 18446744073709551616) : rt m * rt m ≤ m ∧ m < (rt m + 1) * (rt m + 1) :=
  isq_spec 32 m 0 (by omega) (by simpa using h)
theorem rt_unique (m r : Nat) (h : m < 18446744073709551616) (h1 : r * r ≤ m) (h2 : m < (r + 1) * (r + 1)) : r = rt m := by
  obtain ⟨k1, k2⟩ := rt_spec m h
  have a1 : r < rt m + 1 := by
    refine Nat.lt_of_not_le fun g => ?_
    have := Nat.mul_self_le_mul_self g; omega
  have a2 : rt m < r + 1 := by
    refine Nat.lt_of_not_le fun g => ?_
    have := Nat.mul_self_le_mul_self g; omega
  omega
theorem rt_int (m r : Int) (h0 : 0 ≤ m) (h : m < 18446744073709551616) (hr : 0 ≤ r) (h1 : r * r ≤ m) (h2 : m < (r + 1) * (r + 1)) : r = rt m.toNat := by
  obtain ⟨a, rfl⟩ : ∃ a : Nat, m = a := ⟨m.toNat, by omega⟩
  obtain ⟨b, rfl⟩ : ∃ b : Nat, r = b := ⟨r.toNat, by omega⟩
  rw [Int.toNat_natCast, rt_unique a b (by omega) (by exact_mod_cast h1) (by exact_mod_cast h2)]
theorem sq_step (r b m : Int) (h : m < (r + 2 * b) * (r + 2 * b)) : m < (r + b + b) * (r + b + b) := by
  rw [show r + b + b = r + 2 * b from by omega]; exact h
set_option maxHeartbeats 1000000 in
theorem root_any (m : Int) (w : World) (h0 : 0 ≤ m) (h1 : m < 18446744073709551616) :
    Calls Try.prog 75 #[.int .u64 m] w fun e w' => e = .returned (.int .u64 (rt m.toNat)) ∧ w' = w := by
  go_enter Try.func75, Try.ntmps75
  go_wp2
  go_loop [3, 4] (fun rv bv => ∃ r c : Int, rv = .int .u64 r ∧ bv = .int .u64 (c / 2) ∧ 0 ≤ r ∧ 1 ≤ c ∧ r + c ≤ 4294967296 ∧ Hid (∃ j : Nat, c = 2 ^ j) ∧ Hid (r * r ≤ m ∧ m < (r + c) * (r + c))) (fun _ bv => (intOf bv).toNat)
  case atStart => exact ⟨0, 4294967296, rfl, rfl, by omega, by omega, by omega, ⟨32, rfl⟩, ⟨by omega, by show m < (0 + 4294967296) * (0 + 4294967296); omega⟩⟩
  case round =>
    obtain ⟨r, c, rfl, rfl, r0, c0, rc, hj, hm⟩ := hrel
    by_cases hc : 0 < c / 2
    · have hev : ∃ b : Int, c = 2 * b ∧ ∃ j : Nat, b = 2 ^ j := by
        obtain ⟨j, hj⟩ := hj.out
        cases j with
        | zero => simp at hj; omega
        | succ j => exact ⟨2 ^ j, by rw [hj]; rw [show (2 : Int) ^ (j + 1) = 2 ^ j * 2 from rfl]; omega, j, rfl⟩
      obtain ⟨b, hb, hbj⟩ := hev
      subst hb
      have hb2 : 2 * b / 2 = b := by omega
      have b0 : 0 < b := by omega
      have P := Int.mul_nonneg (show 0 ≤ r + b by omega) (show 0 ≤ r + b by omega)
      have P2 := Int.mul_le_mul (show r + b ≤ 4294967295 by omega) (show r + b ≤ 4294967295 by omega) (by omega) (by omega)
      have T := u64_small ((r + b) * (r + b)) P (by omega)
      obtain ⟨S, hS⟩ : ∃ S, S = (r + b) * (r + b) := ⟨_, rfl⟩
      have T' := T.trans hS.symm
      have hS' : Hid _ := hS
      have hSn : 0 ≤ S := by omega
      have hS2 : S < 18446744073709551616 := by omega
      have HBJ : Hid _ := hbj
      clear T hS P P2 hc hbj hj
      by_cases ht : S ≤ m
      · go_wp2
        go_round
        case rel => exact ⟨r + b, b, by simp, by simp, by omega, by omega, by omega, HBJ.out, ⟨by rw [← hS'.out]; exact ht, sq_step r b m hm.out.2⟩⟩
        case measure => simp [intOf]; omega
      · go_wp2
        go_round
        case rel => exact ⟨r, b, by simp, by simp, by omega, by omega, by omega, HBJ.out, ⟨hm.out.1, by rw [← hS'.out]; omega⟩⟩
        case measure => simp [intOf]; omega
    · have c1 : c = 1 := by omega
      subst c1
      have R : Hid _ := rt_int m r h0 h1 r0 hm.out.1 hm.out.2
      clear hm hj
      go_wp2
      go_ret
      refine ⟨congrArg Ending.returned (congrArg (Value.int IntKind.u64) ?_), rfl⟩
      exact R.out
end Go.Proofs.Ytkncmjnakjkndaa
