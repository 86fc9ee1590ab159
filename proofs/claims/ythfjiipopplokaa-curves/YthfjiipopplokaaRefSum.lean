/-
  What tutorref.Add and tutorref.Sub answer: the same as soft.Add and soft.Sub. Conditions: the patterns are 0 to 2^32 - 1.
-/
import Derived.Test.YthfjiipopplokaaRefSwap
import Derived.Test.YthfjiipopplokaaAdd
namespace Go.Proofs.Ythfjiipopplokaa
open Go.RowKit
set_option linter.unusedVariables false
set_option linter.unusedSimpArgs false
theorem radd_any (a b : Int) (w : World) (h0 : 0 ≤ a) (h1 : a < 4294967296) (g0 : 0 ≤ b) (g1 : b < 4294967296) :
    Calls Try.prog 15 #[.int .i64 a, .int .i64 b] w fun e w' => e = .returned (.int .i64 (ADD a b)) ∧ Below w.heap.size w w' := by
  unfold ADD
  by_cases na : 2139095040 < a % 2147483648
  · rw [if_pos (.inl (isNone_t na))]; exact radd_1 a b w h0 h1 g0 g1 (isNone_t na)
  · have n1 := isNone_f na
    by_cases nb : 2139095040 < b % 2147483648
    · rw [if_pos (.inr (isNone_t nb))]; exact radd_2 a b w h0 h1 g0 g1 n1 (isNone_t nb)
    · have n2 := isNone_f nb
      rw [if_neg (by simp [n1, n2])]
      by_cases ia : a % 2147483648 = 2139095040
      · have i1 := isInf_t ia
        rw [if_pos i1]
        by_cases ib : b % 2147483648 = 2139095040
        · have i2 := isInf_t ib
          by_cases sa : 2147483648 ≤ a
          · by_cases sb : 2147483648 ≤ b
            · rw [if_neg (by omega)]; exact radd_4a a b w h0 h1 g0 g1 n1 n2 i1 i2 (isNeg_t sa) (isNeg_t sb)
            · rw [if_pos (by omega)]; exact radd_3a a b w h0 h1 g0 g1 n1 n2 i1 i2 (isNeg_t sa) (isNeg_f sb)
          · by_cases sb : 2147483648 ≤ b
            · rw [if_pos (by omega)]; exact radd_3b a b w h0 h1 g0 g1 n1 n2 i1 i2 (isNeg_f sa) (isNeg_t sb)
            · rw [if_neg (by omega)]; exact radd_4b a b w h0 h1 g0 g1 n1 n2 i1 i2 (isNeg_f sa) (isNeg_f sb)
        · rw [if_neg (by omega)]; exact radd_5 a b w h0 h1 g0 g1 n1 n2 i1 (isInf_f ib)
      · have i1 := isInf_f ia
        rw [if_neg (by simp [i1])]
        by_cases ib : b % 2147483648 = 2139095040
        · rw [if_pos (isInf_t ib)]; exact radd_6 a b w h0 h1 g0 g1 n1 n2 i1 (isInf_t ib)
        · have i2 := isInf_f ib
          rw [if_neg (by simp [i2])]
          by_cases hle : exI b ≤ exI a
          · exact radd_7 a b w h0 h1 g0 g1 n1 n2 i1 i2 (by omega) (by omega) hle
          · exact radd_8 a b w h0 h1 g0 g1 n1 n2 i1 i2 (by omega) (by omega) (by omega)
set_option maxHeartbeats 400000 in
theorem rturned_any (a : Int) (w : World) (h0 : 0 ≤ a) (h1 : a < 4294967296) :
    Calls Try.prog 53 #[.int .i64 a] w fun e w' => e = .returned (.int .i64 ((a + 2147483648) % 4294967296)) ∧ w' = w := by
  go_enter Try.func53, Try.ntmps53
  go_wp2
  go_ret
  exact ⟨rfl, rfl⟩
set_option maxHeartbeats 400000 in
theorem rsub_any (a b : Int) (w : World) (h0 : 0 ≤ a) (h1 : a < 4294967296) (g0 : 0 ≤ b) (g1 : b < 4294967296) :
    Calls Try.prog 16 #[.int .i64 a, .int .i64 b] w fun e w' => e = .returned (.int .i64 (SUB a b)) ∧ Below w.heap.size w w' := by
  unfold SUB
  go_enter Try.func16, Try.ntmps16
  go_wp2_with (first | (go_at_call 53; refine (rturned_any _ _ (by assumption) (by assumption)).mono ?_; rintro e w' ⟨rfl, rfl⟩))
  refine (radd_any _ _ _ h0 h1 (by omega) (by omega)).mono ?_
  rintro e w1 ⟨rfl, hb⟩
  go_wp2
  go_ret
  exact ⟨rfl, hb⟩
/-- any number as a pattern -/
def pat (n : Int) : Int := n % 4294967296
theorem pat_bd (n : Int) : 0 ≤ pat n ∧ pat n < 4294967296 := by unfold pat; omega
set_option maxHeartbeats 400000 in
theorem pattern_any (n : Int) (w : World) (h0 : -9223372036854775808 ≤ n) (h1 : n ≤ 9223372036854775807) :
    Calls Try.prog 11 #[.int .i64 n] w fun e w' => e = .returned (.int .i64 (pat n)) ∧ w' = w := by
  by_cases h : n.tmod 4294967296 < 0
  · have e : Hid (pat n = n.tmod 4294967296 + 4294967296) := by
      show _ = _
      have e1 := Int.emod_def n 4294967296
      have e2 := Int.tmod_def n 4294967296
      unfold pat
      have hn : n < 0 := Int.lt_of_not_ge fun g => by
        have := Int.tmod_nonneg 4294967296 g; omega
      have := Int.tmod_add_mul_tdiv n 4294967296
      have b1 := Int.lt_tmod_of_pos n (show (0 : Int) < 4294967296 by decide)
      omega
    have b1 := Int.lt_tmod_of_pos n (show (0 : Int) < 4294967296 by decide)
    have b2 := Int.tmod_lt_of_pos n (show (0 : Int) < 4294967296 by decide)
    go_enter Try.func11, Try.ntmps11
    go_wp2
    go_ret
    refine ⟨congrArg Ending.returned (congrArg (Value.int IntKind.i64) ?_), rfl⟩
    rw [e.out]
  · have e : Hid (pat n = n.tmod 4294967296) := by
      show _ = _
      unfold pat
      have := Int.tmod_add_mul_tdiv n 4294967296
      have b2 := Int.tmod_lt_of_pos n (show (0 : Int) < 4294967296 by decide)
      omega
    have b1 := Int.lt_tmod_of_pos n (show (0 : Int) < 4294967296 by decide)
    have b2 := Int.tmod_lt_of_pos n (show (0 : Int) < 4294967296 by decide)
    go_enter Try.func11, Try.ntmps11
    go_wp2
    go_ret
    refine ⟨congrArg Ending.returned (congrArg (Value.int IntKind.i64) ?_), rfl⟩
    rw [e.out]
set_option maxHeartbeats 400000 in
theorem two_any (a b : Int) (w : World) (h0 : 0 ≤ a) (h1 : a < 4294967296) :
    Calls Try.prog 14 #[.int .u32 a, .int .i64 b] w fun e w' => e = .returned (.bool (a == b)) ∧ w' = w := by
  go_enter Try.func14, Try.ntmps14
  go_wp2
  go_ret
  exact ⟨rfl, rfl⟩
end Go.Proofs.Ythfjiipopplokaa
