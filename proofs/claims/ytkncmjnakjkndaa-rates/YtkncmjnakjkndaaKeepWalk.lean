/-
  What tutorkeep.size, none, finite and pick answer. Conditions: the arguments fit their kinds.
-/
import Derived.Test.YtkncmjnakjkndaaKeepMath
namespace Go.Proofs.Ytkncmjnakjkndaa
open Go.RowKit
set_option linter.unusedVariables false
set_option linter.unusedSimpArgs false
theorem MUL_bd (a b : Int) : 0 ≤ MUL a b ∧ MUL a b < 4294967296 := by
  have h1 := sgn2_or a b
  have h2 := RI_bd (manI a * manI b) (exI a + exI b)
  unfold MUL
  split
  · omega
  · split
    · split <;> omega
    · split
      · split <;> omega
      · omega
theorem DIV_bd (a b : Int) : 0 ≤ DIV a b ∧ DIV a b < 4294967296 := by
  have h1 := sgn2_or a b
  have h2 : 0 ≤ DQ a b ∧ DQ a b ≤ 2139095040 := RI_bd _ _
  unfold DIV
  split
  · omega
  · split
    · split <;> omega
    · split
      · split <;> omega
      · split <;> omega
theorem FROMI_bd (n : Int) : 0 ≤ FROMI n ∧ FROMI n < 4294967296 := by
  have h1 := RI_bd (-n) 0
  have h2 := RI_bd n 0
  unfold FROMI; split <;> omega
set_option maxHeartbeats 400000 in
theorem ksize_any (a : Int) (w : World) (h0 : 0 ≤ a) (h1 : a < 4294967296) :
    Calls Try.prog 42 #[.int .u32 a] w fun e w' => e = .returned (.int .u32 (a % 2147483648)) ∧ w' = w := by
  go_enter Try.func42, Try.ntmps42
  go_wp2
  go_ret
  exact ⟨rfl, rfl⟩
def kNone (a : Int) : Bool := decide (2139095040 < a % 2147483648)
def kFin (a : Int) : Bool := decide (a % 2147483648 < 2139095040)
theorem kNone_t {a : Int} (h : 2139095040 < a % 2147483648) : kNone a = true := by unfold kNone; simpa using h
theorem kNone_f {a : Int} (h : ¬ 2139095040 < a % 2147483648) : kNone a = false := by unfold kNone; simpa using h
theorem kFin_t {a : Int} (h : a % 2147483648 < 2139095040) : kFin a = true := by unfold kFin; simpa using h
theorem kFin_f {a : Int} (h : ¬ a % 2147483648 < 2139095040) : kFin a = false := by unfold kFin; simpa using h
set_option maxHeartbeats 400000 in
theorem knone_any (a : Int) (w : World) (h0 : 0 ≤ a) (h1 : a < 4294967296) :
    Calls Try.prog 43 #[.int .u32 a] w fun e w' => e = .returned (.bool (kNone a)) ∧ w' = w := by
  go_enter Try.func43, Try.ntmps43
  go_wp2
  go_ret
  exact ⟨rfl, rfl⟩
set_option maxHeartbeats 400000 in
theorem kfin_any (a : Int) (w : World) (h0 : 0 ≤ a) (h1 : a < 4294967296) :
    Calls Try.prog 44 #[.int .u32 a] w fun e w' => e = .returned (.bool (kFin a)) ∧ w' = w := by
  go_enter Try.func44, Try.ntmps44
  go_wp2
  go_ret
  exact ⟨rfl, rfl⟩
end Go.Proofs.Ytkncmjnakjkndaa
