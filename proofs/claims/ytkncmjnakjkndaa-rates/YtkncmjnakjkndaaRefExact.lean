/-
  What tutorref.exact answers: the sum of two finite numbers as a whole number times a power of 2. Conditions: the numbers are finite patterns apart, the power of the first is no less.
-/
import Derived.Test.YtkncmjnakjkndaaRefOf
namespace Go.Proofs.Ytkncmjnakjkndaa
open Go.RowKit
set_option linter.unusedVariables false
set_option linter.unusedSimpArgs false
set_option maxHeartbeats 1000000 in
theorem exact_near (n i n' i' sx sy : Bool) (mx ex my ey : Int) (w : World) (x0 : 0 ≤ mx) (x1 : mx < 16777216) (y0 : 0 ≤ my) (y1 : my < 16777216) (e0 : -149 ≤ ey) (e1 : ey ≤ ex) (e2 : ex ≤ 105) (hg : ex - ey ≤ 37) :
    Calls Try.prog 64 #[.agg #[.bool n, .bool i, .bool sx, .int .i64 mx, .int .i64 ex], .agg #[.bool n', .bool i', .bool sy, .int .i64 my, .int .i64 ey]] w fun e w' =>
      e = .returned (.tuple #[.int .i64 (exZ (ng sx mx) (ng sy my) (ex - ey)), .int .i64 (exF (ng sy my) ex ey)]) ∧ Below w.heap.size w w' := by
  rw [exZ_near _ _ _ hg, exF_near _ _ _ hg]
  obtain ⟨T, hT⟩ : ∃ T : Int, T = 2 ^ (ex - ey).toNat * mx := ⟨_, rfl⟩
  have hb := pow_bd mx (ex - ey).toNat 37 x0 (by omega)
  have hT0 : 0 ≤ T ∧ T < 2305843009213693952 := by rw [hT, Int.mul_comm]; omega
  have hTn : 2 ^ (ex - ey).toNat * -mx = -T := by rw [hT, Int.mul_neg]
  replace hT := hT.symm
  clear hb
  cases sx <;> cases sy
  · simp only [ng, if_true, if_false, Bool.false_eq_true]
    rw [hT]
    go_enter Try.func64, Try.ntmps64
    go_wp2
    go_quiet ((go_at_call 73; exact Calls.quiet_of_same (rshifted_any _ _ _ (by omega) (by omega) (by omega) (by omega))))
    go_wp2
    go_ret2
    exact ⟨rfl, bel2 _ _ _ _⟩
  · simp only [ng, if_true, if_false, Bool.false_eq_true]
    rw [hT]
    go_enter Try.func64, Try.ntmps64
    go_wp2
    go_quiet ((go_at_call 73; exact Calls.quiet_of_same (rshifted_any _ _ _ (by omega) (by omega) (by omega) (by omega))))
    go_wp2
    go_ret2
    exact ⟨rfl, bel2 _ _ _ _⟩
  · simp only [ng, if_true, if_false, Bool.false_eq_true]
    rw [hTn]
    go_enter Try.func64, Try.ntmps64
    go_wp2
    go_quiet ((go_at_call 73; exact Calls.quiet_of_same (rshifted_any _ _ _ (by omega) (by omega) (by omega) (by omega))))
    go_wp2
    go_ret2
    exact ⟨rfl, bel2 _ _ _ _⟩
  · simp only [ng, if_true, if_false, Bool.false_eq_true]
    rw [hTn]
    go_enter Try.func64, Try.ntmps64
    go_wp2
    go_quiet ((go_at_call 73; exact Calls.quiet_of_same (rshifted_any _ _ _ (by omega) (by omega) (by omega) (by omega))))
    go_wp2
    go_ret2
    exact ⟨rfl, bel2 _ _ _ _⟩
set_option maxHeartbeats 1000000 in
theorem exact_far (n i n' i' sx sy : Bool) (mx ex my ey : Int) (w : World) (x0 : 0 ≤ mx) (x1 : mx < 16777216) (y0 : 0 ≤ my) (y1 : my < 16777216) (e0 : -149 ≤ ey) (e1 : ey ≤ ex) (e2 : ex ≤ 105) (hg : ¬ ex - ey ≤ 37) :
    Calls Try.prog 64 #[.agg #[.bool n, .bool i, .bool sx, .int .i64 mx, .int .i64 ex], .agg #[.bool n', .bool i', .bool sy, .int .i64 my, .int .i64 ey]] w fun e w' =>
      e = .returned (.tuple #[.int .i64 (exZ (ng sx mx) (ng sy my) (ex - ey)), .int .i64 (exF (ng sy my) ex ey)]) ∧ Below w.heap.size w w' := by
  rw [exZ_far _ _ _ hg, exF_far _ _ _ hg]
  by_cases hb : my = 0
  · subst hb
    cases sx <;> cases sy
    all_goals
      simp only [ng, if_true, if_false, Bool.false_eq_true, Int.neg_zero, Int.lt_irrefl]
      go_enter Try.func64, Try.ntmps64
      go_wp2
      go_quiet (fail)
      go_wp2
      go_ret2
      exact ⟨rfl, bel2 _ _ _ _⟩
  · have hp : 0 < my := by omega
    cases sx <;> cases sy
    · simp only [ng, if_false, Bool.false_eq_true]
      rw [if_pos hp, if_neg hb]
      clear hb
      go_enter Try.func64, Try.ntmps64
      go_wp2
      go_quiet (fail)
      go_wp2
      go_ret2
      exact ⟨rfl, bel2 _ _ _ _⟩
    · simp only [ng, if_true, if_false, Bool.false_eq_true]
      rw [if_neg (by omega), if_pos (by omega), if_neg (by omega)]
      clear hb
      go_enter Try.func64, Try.ntmps64
      go_wp2
      go_quiet (fail)
      go_wp2
      go_ret2
      exact ⟨rfl, bel2 _ _ _ _⟩
    · simp only [ng, if_true, if_false, Bool.false_eq_true]
      rw [if_pos hp, if_neg hb]
      clear hb
      go_enter Try.func64, Try.ntmps64
      go_wp2
      go_quiet (fail)
      go_wp2
      go_ret2
      exact ⟨rfl, bel2 _ _ _ _⟩
    · simp only [ng, if_true]
      rw [if_neg (by omega), if_pos (by omega), if_neg (by omega)]
      clear hb
      go_enter Try.func64, Try.ntmps64
      go_wp2
      go_quiet (fail)
      go_wp2
      go_ret2
      exact ⟨rfl, bel2 _ _ _ _⟩
theorem exact_any (n i n' i' sx sy : Bool) (mx ex my ey : Int) (w : World) (x0 : 0 ≤ mx) (x1 : mx < 16777216) (y0 : 0 ≤ my) (y1 : my < 16777216) (e0 : -149 ≤ ey) (e1 : ey ≤ ex) (e2 : ex ≤ 105) :
    Calls Try.prog 64 #[.agg #[.bool n, .bool i, .bool sx, .int .i64 mx, .int .i64 ex], .agg #[.bool n', .bool i', .bool sy, .int .i64 my, .int .i64 ey]] w fun e w' =>
      e = .returned (.tuple #[.int .i64 (exZ (ng sx mx) (ng sy my) (ex - ey)), .int .i64 (exF (ng sy my) ex ey)]) ∧ Below w.heap.size w w' := by
  by_cases hg : ex - ey ≤ 37
  · exact exact_near n i n' i' sx sy mx ex my ey w x0 x1 y0 y1 e0 e1 e2 hg
  · exact exact_far n i n' i' sx sy mx ex my ey w x0 x1 y0 y1 e0 e1 e2 hg
end Go.Proofs.Ytkncmjnakjkndaa
