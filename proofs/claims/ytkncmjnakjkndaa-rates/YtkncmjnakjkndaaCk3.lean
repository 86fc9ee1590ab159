/-
  Is it a configuration? The document's answer. Conditions: none but that the numbers are ints.
-/
import Derived.Test.YtkncmjnakjkndaaCk2
namespace Go.Proofs.Ytkncmjnakjkndaa
open Go.RowKit
open Go.Joins (block_setCell cell_of_block unfrozen_of_block)
set_option linter.unusedVariables false
set_option linter.unusedSimpArgs false
theorem rcs_wide (c : Cf) (k : Nat) (hk : k < 4) : (rcs c)[1 + k]? = some (.int .i64 (wd c k)) := by
  rcases (show k = 0 ∨ k = 1 ∨ k = 2 ∨ k = 3 by omega) with rfl | rfl | rfl | rfl <;> rfl
theorem ALW_wid (c : Cf) (h : WID c = false) : ALW c = false := by unfold ALW; rw [h]; simp
set_option maxHeartbeats 4000000 in
set_option maxRecDepth 100000 in
theorem allowed_any (c : Cf) (w : World) :
    Calls Try.prog 109 #[.agg (rcs c)] w fun e w' => e = .returned (.bool (ALW c)) ∧ Below w.heap.size w w' := by
  obtain ⟨X, hX⟩ : ∃ X, X = rcs c := ⟨_, rfl⟩
  rw [← hX]
  obtain ⟨W, hW, b0, bel, hws⟩ := one_block w X 53
  have c0 : W.cell? ⟨w.heap.size, 0, none⟩ = some (.int .i64 c.L) := (cell_of_block b0 0).trans (by rw [hX]; rfl)
  have c5 : W.cell? ⟨w.heap.size, 5, none⟩ = some (.int .i64 c.bend) := (cell_of_block b0 5).trans (by rw [hX]; rfl)
  have c6 : W.cell? ⟨w.heap.size, 6, none⟩ = some (.int .i64 c.loss) := (cell_of_block b0 6).trans (by rw [hX]; rfl)
  have c7 : W.cell? ⟨w.heap.size, 7, none⟩ = some (.int .i64 c.rule) := (cell_of_block b0 7).trans (by rw [hX]; rfl)
  have c8 : W.cell? ⟨w.heap.size, 8, none⟩ = some (.int .i64 c.plan) := (cell_of_block b0 8).trans (by rw [hX]; rfl)
  have c9 : W.cell? ⟨w.heap.size, 9, none⟩ = some (.int .i64 c.batch) := (cell_of_block b0 9).trans (by rw [hX]; rfl)
  have c10 : W.cell? ⟨w.heap.size, 10, none⟩ = some (.int .i64 c.steps) := (cell_of_block b0 10).trans (by rw [hX]; rfl)
  have c11 : W.cell? ⟨w.heap.size, 11, none⟩ = some (.int .i64 c.every) := (cell_of_block b0 11).trans (by rw [hX]; rfl)
  have c12 : W.cell? ⟨w.heap.size, 12, none⟩ = some (.int .i64 c.span) := (cell_of_block b0 12).trans (by rw [hX]; rfl)
  have c13 : W.cell? ⟨w.heap.size, 13, none⟩ = some (.int .i64 c.warm) := (cell_of_block b0 13).trans (by rw [hX]; rfl)
  have cw : Hid (∀ k, k < 4 → W.cell? ⟨w.heap.size, 1 + k, none⟩ = some (.int .i64 (wd c k))) := fun k hk => (cell_of_block b0 (1 + k)).trans (by rw [hX]; exact rcs_wide c k hk)
  have BE : Hid (Below w.heap.size w W) := bel
  have HW : Hid _ := hW
  clear b0 bel hW hX hws
  cases hG : (inB c.L 1 3 && inB c.bend 0 2 && inB c.loss 0 1 && inB c.rule 0 1 && inB c.plan 0 2 && inB c.batch 1 4)
  · have R : Hid (ALW c = false) := by
      show _ = _
      unfold ALW
      revert hG
      cases inB c.L 1 3 <;> cases inB c.bend 0 2 <;> cases inB c.loss 0 1 <;> cases inB c.rule 0 1 <;> cases inB c.plan 0 2 <;> cases inB c.batch 1 4 <;> simp
    go_enter Try.func109, Try.ntmps109
    go_upto_region 1 with fail
    rw [HW.out]
    go_wp2_with (first | (go_at_call 113; refine (rin_any _ _ _ _).mono ?_; rintro e w' ⟨rfl, hw'⟩; subst w'))
    all_goals first
      | (go_ret; exact ⟨ret_bool R.out.symm, BE.out⟩)
      | (exfalso; simp_all)
  · have G : Hid (inB c.L 1 3 = true ∧ inB c.bend 0 2 = true ∧ inB c.loss 0 1 = true ∧ inB c.rule 0 1 = true ∧ inB c.plan 0 2 = true ∧ inB c.batch 1 4 = true) := by
      show _ ∧ _
      simp only [Bool.and_eq_true] at hG
      exact ⟨hG.1.1.1.1.1, hG.1.1.1.1.2, hG.1.1.1.2, hG.1.1.2, hG.1.2, hG.2⟩
    clear hG
    go_enter Try.func109, Try.ntmps109
    go_upto_region 1 with fail
    rw [HW.out]
    go_upto_region 3 with (first | (go_at_call 113; refine (rin_any _ _ _ _).mono ?_; rintro e w' ⟨rfl, hw'⟩; subst w'; first | rw [G.out.1] | rw [G.out.2.1] | rw [G.out.2.2.1] | rw [G.out.2.2.2.1] | rw [G.out.2.2.2.2.1] | rw [G.out.2.2.2.2.2]))
    clear c5 c6 c7 c8 c9
    go_wp2
    go_loop [3] (fun iv => ∃ k : Nat, k ≤ 4 ∧ iv = .int .i64 k ∧ Hid (∀ i, i < k → okW c i = true)) (fun iv => 4 - (intOf iv).toNat)
    case atStart => exact ⟨0, by omega, rfl, fun i h => absurd h (by omega)⟩
    case round =>
      obtain ⟨k, hk, rfl, OK⟩ := hrel
      by_cases hlt : k < 4
      · have hx := cw.out k hlt
        have EQi : Hid ((k : Int) ≤ c.L → okW c k = inB (wd c k) 1 4) := okW_in
        have EQo : Hid (¬ (k : Int) ≤ c.L → okW c k = (wd c k == 0)) := okW_out
        have FF : Hid (okW c k = false → ALW c = false) := fun h => ALW_wid c (WID_f c k hlt h)
        obtain ⟨x, hxx⟩ : ∃ x, x = wd c k := ⟨_, rfl⟩
        rw [← hxx] at hx EQi EQo
        clear hxx
        have hk4 : (k : Int) < 4 := by omega
        by_cases hL : (k : Int) ≤ c.L
        · cases hq : inB x 1 4
          · have R : Hid (ALW c = false) := FF.out (by rw [EQi.out hL, hq])
            clear OK EQi EQo FF
            go_wp2_with (first | (go_at_call 113; refine (rin_any _ _ _ _).mono ?_; rintro e w' ⟨rfl, hw'⟩; subst w'; rw [hq]))
            go_ret
            exact ⟨ret_bool R.out.symm, BE.out⟩
          · have R : Hid (okW c k = true) := by show _ = _; rw [EQi.out hL, hq]
            clear EQi EQo FF
            go_wp2_with (first | (go_at_call 113; refine (rin_any _ _ _ _).mono ?_; rintro e w' ⟨rfl, hw'⟩; subst w'; rw [hq]))
            go_round
            case rel =>
              refine ⟨k + 1, by omega, by go_num, fun i hi => ?_⟩
              rcases Nat.lt_succ_iff_lt_or_eq.1 hi with h | h
              · exact OK.out i h
              · rw [h]; exact R.out
            case measure => simp [intOf]; omega
        · cases hq : (x == 0)
          · have R : Hid (ALW c = false) := FF.out (by rw [EQo.out hL, hq])
            clear OK EQi EQo FF
            go_wp2
            go_ret
            exact ⟨ret_bool R.out.symm, BE.out⟩
          · have R : Hid (okW c k = true) := by show _ = _; rw [EQo.out hL, hq]
            clear EQi EQo FF
            go_wp2
            go_round
            case rel =>
              refine ⟨k + 1, by omega, by go_num, fun i hi => ?_⟩
              rcases Nat.lt_succ_iff_lt_or_eq.1 hi with h | h
              · exact OK.out i h
              · rw [h]; exact R.out
            case measure => simp [intOf]; omega
      · have R : Hid (WID c = true) := WID_t c fun i hi => OK.out i (by omega)
        clear OK
        go_wp2_with (first | (go_at_call 113; refine (rin_any _ _ _ _).mono ?_; rintro e w' ⟨rfl, hw'⟩; subst w'))
        all_goals go_ret
        all_goals refine ⟨ret_bool ?_, BE.out⟩
        all_goals have R' := R.out
        all_goals have G' := G.out
        all_goals simp_all [ALW]
end Go.Proofs.Ytkncmjnakjkndaa
