/-
  What tutorref.Add and tutorref.Sub answer: the same as soft.Add and soft.Sub. Conditions: the patterns are 0 to 2^32 - 1.
-/
import Derived.Test.YtkncmjnakjkndaaPat
import Derived.Test.YtkncmjnakjkndaaRefSwap
import Derived.Test.YtkncmjnakjkndaaAdd
namespace Go.Proofs.Ytkncmjnakjkndaa
open Go.RowKit
set_option linter.unusedVariables false
set_option linter.unusedSimpArgs false
theorem radd_any (a b : Int) (w : World) (h0 : 0 ≤ a) (h1 : a < 4294967296) (g0 : 0 ≤ b) (g1 : b < 4294967296) :
    Calls Try.prog 19 #[.int .i64 a, .int .i64 b] w fun e w' => e = .returned (.int .i64 (ADD a b)) ∧ Below w.heap.size w w' := by
  unfold ADD
  by_cases na : 2139095040 < a % 2147483648
  · rw [if_pos (.inl (isNone_t na))]; exact radd_1 a b w h0 h1 g0 g1 (isNone_t na)
  · have n1 := isNone_f na
    by_cases nb : 2139095040 < b % 2147483648
    · rw [if_pos (.inr (isNone_t nb))]; exact radd_2 a b w h0 h1 g0 g1 n1 (isNone_t nb)
    · have n2 := isNone_f nb
      rw [if_neg (by simp [n1, n2])]
      by_cases ia : a % 2147483648 = 2139095040
      · have i1 := isInf_t ia
        rw [if_pos i1]
        by_cases ib : b % 2147483648 = 2139095040
        · have i2 := isInf_t ib
          by_cases sa : 2147483648 ≤ a
          · by_cases sb : 2147483648 ≤ b
            · rw [if_neg (by omega)]; exact radd_4a a b w h0 h1 g0 g1 n1 n2 i1 i2 (isNeg_t sa) (isNeg_t sb)
            · rw [if_pos (by omega)]; exact radd_3a a b w h0 h1 g0 g1 n1 n2 i1 i2 (isNeg_t sa) (isNeg_f sb)
          · by_cases sb : 2147483648 ≤ b
            · rw [if_pos (by omega)]; exact radd_3b a b w h0 h1 g0 g1 n1 n2 i1 i2 (isNeg_f sa) (isNeg_t sb)
            · rw [if_neg (by omega)]; exact radd_4b a b w h0 h1 g0 g1 n1 n2 i1 i2 (isNeg_f sa) (isNeg_f sb)
        · rw [if_neg (by omega)]; exact radd_5 a b w h0 h1 g0 g1 n1 n2 i1 (isInf_f ib)
      · have i1 := isInf_f ia
        rw [if_neg (by simp [i1])]
        by_cases ib : b % 2147483648 = 2139095040
        · rw [if_pos (isInf_t ib)]; exact radd_6 a b w h0 h1 g0 g1 n1 n2 i1 (isInf_t ib)
        · have i2 := isInf_f ib
          rw [if_neg (by simp [i2])]
          by_cases hle : exI b ≤ exI a
          · exact radd_7 a b w h0 h1 g0 g1 n1 n2 i1 i2 (by omega) (by omega) hle
          · exact radd_8 a b w h0 h1 g0 g1 n1 n2 i1 i2 (by omega) (by omega) (by omega)
set_option maxHeartbeats 400000 in
theorem rturned_any (a : Int) (w : World) (h0 : 0 ≤ a) (h1 : a < 4294967296) :
    Calls Try.prog 66 #[.int .i64 a] w fun e w' => e = .returned (.int .i64 ((a + 2147483648) % 4294967296)) ∧ w' = w := by
  go_enter Try.func66, Try.ntmps66
  go_wp2
  go_ret
  exact ⟨rfl, rfl⟩
set_option maxHeartbeats 400000 in
theorem rsub_any (a b : Int) (w : World) (h0 : 0 ≤ a) (h1 : a < 4294967296) (g0 : 0 ≤ b) (g1 : b < 4294967296) :
    Calls Try.prog 20 #[.int .i64 a, .int .i64 b] w fun e w' => e = .returned (.int .i64 (SUB a b)) ∧ Below w.heap.size w w' := by
  unfold SUB
  go_enter Try.func20, Try.ntmps20
  go_wp2_with (first | (go_at_call 66; refine (rturned_any _ _ (by assumption) (by assumption)).mono ?_; rintro e w' ⟨rfl, rfl⟩))
  refine (radd_any _ _ _ h0 h1 (by omega) (by omega)).mono ?_
  rintro e w1 ⟨rfl, hb⟩
  go_wp2
  go_ret
  exact ⟨rfl, hb⟩
set_option maxHeartbeats 400000 in
theorem two_any (a b : Int) (w : World) (h0 : 0 ≤ a) (h1 : a < 4294967296) :
    Calls Try.prog 18 #[.int .u32 a, .int .i64 b] w fun e w' => e = .returned (.bool (a == b)) ∧ w' = w := by
  go_enter Try.func18, Try.ntmps18
  go_wp2
  go_ret
  exact ⟨rfl, rfl⟩
end Go.Proofs.Ytkncmjnakjkndaa
