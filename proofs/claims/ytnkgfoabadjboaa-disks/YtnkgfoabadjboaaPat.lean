/-
  Any whole number as a pattern (modulo 2^32), as the statements make it. Condition: the number is an int.
-/
import Derived.Test.YtnkgfoabadjboaaSoft
namespace Go.Proofs.Ytnkgfoabadjboaa
open Go.RowKit
set_option linter.unusedVariables false
/-- any number as a pattern -/
def pat (n : Int) : Int := n % 4294967296
theorem pat_bd (n : Int) : 0 ≤ pat n ∧ pat n < 4294967296 := by unfold pat; omega
set_option maxHeartbeats 400000 in
theorem pattern_any (n : Int) (w : World) (h0 : -9223372036854775808 ≤ n) (h1 : n ≤ 9223372036854775807) :
    Calls Try.prog 15 #[.int .i64 n] w fun e w' => e = .returned (.int .i64 (pat n)) ∧ w' = w := by
  by_cases h : n.tmod 4294967296 < 0
  · have e : Hid (pat n = n.tmod 4294967296 + 4294967296) := by
      show _ = _
      have e1 := Int.emod_def n 4294967296
      have e2 := Int.tmod_def n 4294967296
      unfold pat
      have hn : n < 0 := Int.lt_of_not_ge fun g => by
        have := Int.tmod_nonneg 4294967296 g; omega
      have := Int.tmod_add_mul_tdiv n 4294967296
      have b1 := Int.lt_tmod_of_pos n (show (0 : Int) < 4294967296 by decide)
      omega
    have b1 := Int.lt_tmod_of_pos n (show (0 : Int) < 4294967296 by decide)
    have b2 := Int.tmod_lt_of_pos n (show (0 : Int) < 4294967296 by decide)
    go_enter Try.func15, Try.ntmps15
    go_wp2
    go_ret
    refine ⟨congrArg Ending.returned (congrArg (Value.int IntKind.i64) ?_), rfl⟩
    rw [e.out]
  · have e : Hid (pat n = n.tmod 4294967296) := by
      show _ = _
      unfold pat
      have := Int.tmod_add_mul_tdiv n 4294967296
      have b2 := Int.tmod_lt_of_pos n (show (0 : Int) < 4294967296 by decide)
      omega
    have b1 := Int.lt_tmod_of_pos n (show (0 : Int) < 4294967296 by decide)
    have b2 := Int.tmod_lt_of_pos n (show (0 : Int) < 4294967296 by decide)
    go_enter Try.func15, Try.ntmps15
    go_wp2
    go_ret
    refine ⟨congrArg Ending.returned (congrArg (Value.int IntKind.i64) ?_), rfl⟩
    rw [e.out]
end Go.Proofs.Ytnkgfoabadjboaa
