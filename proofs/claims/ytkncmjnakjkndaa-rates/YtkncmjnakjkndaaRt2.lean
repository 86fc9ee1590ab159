/-
  RateAt, as the program makes it. Conditions: the configuration's patterns are some (0 to 2^32 - 1), the step is an int.
-/
import Derived.Test.YtkncmjnakjkndaaRt1
namespace Go.Proofs.Ytkncmjnakjkndaa
open Go.RowKit
open Go.Joins (block_setCell cell_of_block unfrozen_of_block)
set_option linter.unusedVariables false
set_option linter.unusedSimpArgs false
theorem ALW_more {c : Cf} (h : ALW c = true) : (0 ≤ c.plan ∧ c.plan ≤ 2) ∧ (0 ≤ c.steps ∧ c.steps ≤ 200) ∧ (1 ≤ c.span ∧ c.span ≤ 200) ∧ (0 ≤ c.warm ∧ c.warm ≤ c.steps) := by
  unfold ALW at h
  simp only [Bool.and_eq_true] at h
  exact ⟨inB_iff.1 h.1.1.1.1.1.2, inB_iff.1 h.1.1.1.2, inB_iff.1 h.1.2, inB_iff.1 h.2⟩
set_option maxHeartbeats 2000000 in
set_option maxRecDepth 100000 in
theorem planned_any (c : Cf) (step : Int) (w : World) (h : ALW c = true) (h2 : c.ok2) (hs : 0 ≤ step ∧ step ≤ 400) :
    Calls Try.prog 115 #[.agg (pcs c), .int .i64 step] w fun e w' => e = .returned (.int .u32 (PLN c step)) ∧ Below w.heap.size w w' := by
  obtain ⟨hp, hst, hsp, hwm⟩ := ALW_more h
  obtain ⟨r0, r1⟩ := h2.rate
  obtain ⟨X, hX⟩ : ∃ X, X = pcs c := ⟨_, rfl⟩
  have WV : Hid (∀ w, Calls Try.prog 143 #[.agg X, .int .i64 step] w fun e w' => e = .returned (.int .u32 (WAV c step)) ∧ Below w.heap.size w w') := fun w => by rw [hX]; exact waved_any c step w h2 (by omega) (by omega) hst
  rw [← hX]
  obtain ⟨W, hW, b0, bel, hws⟩ := one_block w X 58
  have c8 : W.cell? ⟨w.heap.size, 8, none⟩ = some (.int .i64 c.plan) := (cell_of_block b0 8).trans (by rw [hX]; rfl)
  have c12 : W.cell? ⟨w.heap.size, 12, none⟩ = some (.int .i64 c.span) := (cell_of_block b0 12).trans (by rw [hX]; rfl)
  have c15 : W.cell? ⟨w.heap.size, 15, none⟩ = some (.int .u32 c.rate) := (cell_of_block b0 15).trans (by rw [hX]; rfl)
  have B0 : Hid _ := b0
  have X1 : Hid ((Try.prog.info? 58).map (·.size) = some X.size) := by show _ = _; rw [hX]; kernel_rfl
  have WS : Hid (w.heap.size ≤ W.heap.size) := by show _ ≤ _; omega
  have BE : Hid (Below w.heap.size w W) := bel
  have HW : Hid _ := hW
  have E : Hid (PLN c step = if c.plan = 1 then HLV c.rate (step / c.span).toNat else if c.plan = 2 then WAV c step else c.rate) := rfl
  obtain ⟨pl, hpl⟩ : ∃ x, x = c.plan := ⟨_, rfl⟩
  obtain ⟨sp, hspp⟩ : ∃ x, x = c.span := ⟨_, rfl⟩
  obtain ⟨rt, hrt⟩ : ∃ x, x = c.rate := ⟨_, rfl⟩
  rw [← hpl] at hp c8 E
  rw [← hspp] at hsp c12 E
  rw [← hrt] at r0 r1 c15 E
  clear b0 bel hW hX hws hpl hspp hrt
  rcases (show pl = 1 ∨ pl = 2 ∨ pl = 0 by omega) with rfl | rfl | rfl
  · obtain ⟨q, hq⟩ : ∃ q, q = step / sp := ⟨_, rfl⟩
    have q0 : 0 ≤ q := by rw [hq]; exact Int.ediv_nonneg (by omega) (by omega)
    have q1 : q ≤ step := by rw [hq]; exact Int.ediv_le_self _ (by omega)
    have R : Hid (PLN c step = HLV rt q.toNat) := by show _ = _; rw [E.out, if_pos rfl, hq]
    have T1 : step.tdiv sp = q := by rw [hq]; exact Int.tdiv_eq_ediv_of_nonneg hs.1
    have T2 := hq.symm
    have z : (sp == 0) = false := by simp; omega
    have z1 : IntKind.i64.wrap q = q := by rw [IntKind.wrap_i64]; omega
    clear E hq
    go_enter Try.func115, Try.ntmps115
    go_upto_region 1 with fail
    rw [HW.out]
    go_wp2_with fail
    go_quiet (first | (go_at_call 142; exact Calls.quiet_of_same (halved_any rt q _ r0 r1 (by omega))))
    go_wp2
    go_ret
    exact ⟨ret_int R.out.symm, below_dn BE.out _⟩
  · have R : Hid (PLN c step = WAV c step) := by show _ = _; rw [E.out]; rfl
    obtain ⟨v, hv⟩ : ∃ v, v = WAV c step := ⟨_, rfl⟩
    rw [← hv] at R WV
    clear E hv
    go_enter Try.func115, Try.ntmps115
    go_upto_region 1 with fail
    rw [HW.out]
    go_wp2_with (first
      | (go_at_call 143; refine (WV.out _).mono ?_; rintro e w1 ⟨rfl, hb⟩; have HB : Hid _ := hb; clear hb)
      | (refine wpList_load_row rfl 58 _ rfl w.heap.size rfl 58 X (0, 0) _ B0.out Try.underlying58 rfl X1.out ?_))
    go_ret
    exact ⟨ret_int R.out.symm, BE.out.trans (HB.out.mono WS.out)⟩
  · have R : Hid (PLN c step = rt) := by show _ = _; rw [E.out]; rfl
    clear E
    go_enter Try.func115, Try.ntmps115
    go_upto_region 1 with fail
    rw [HW.out]
    go_wp2
    go_ret
    exact ⟨ret_int R.out.symm, BE.out⟩
set_option maxHeartbeats 2000000 in
set_option maxRecDepth 100000 in
theorem rateAt_any (c : Cf) (step : Int) (w : World) (h2 : c.ok2) :
    Calls Try.prog 57 #[.agg (pcs c), .int .i64 step] w fun e w' => e = .returned (.int .u32 (RATE c step)) ∧ Below w.heap.size w w' := by
  obtain ⟨X, hX⟩ : ∃ X, X = pcs c := ⟨_, rfl⟩
  have IC : Hid (∀ w, Calls Try.prog 107 #[.agg X] w fun e w' => e = .returned (.bool (ALW c)) ∧ Below w.heap.size w w') := fun w => by rw [hX]; exact isConfig_any c w
  have PL : Hid (ALW c = true → inB step 0 400 = true → ∀ w, Calls Try.prog 115 #[.agg X, .int .i64 step] w fun e w' => e = .returned (.int .u32 (PLN c step)) ∧ Below w.heap.size w w') := fun h g w => by rw [hX]; exact planned_any c step w h h2 (inB_iff.1 g)
  rw [← hX]
  obtain ⟨W, hW, b0, bel, hws⟩ := one_block w X 58
  have B0 : Hid _ := b0
  have X1 : Hid ((Try.prog.info? 58).map (·.size) = some X.size) := by show _ = _; rw [hX]; kernel_rfl
  have WS : Hid (w.heap.size ≤ W.heap.size) := by show _ ≤ _; omega
  have WT : Hid (w.heap.size < W.heap.size) := by show _ < _; omega
  have BE : Hid (Below w.heap.size w W) := bel
  have HW : Hid _ := hW
  clear b0 bel hW hX hws
  cases h1 : ALW c
  · have R : Hid (RATE c step = 0) := by show _ = _; unfold RATE; rw [if_neg (by rw [h1]; simp)]
    rw [h1] at IC
    clear PL
    go_enter Try.func57, Try.ntmps57
    go_upto_region 1 with fail
    rw [HW.out]
    go_wp2_with (first
      | (go_at_call 107; refine (IC.out _).mono ?_; rintro e w1 ⟨rfl, hb⟩; have HB : Hid _ := hb; clear hb)
      | (refine wpList_load_row rfl 58 _ rfl w.heap.size rfl 58 X (0, 0) _ B0.out Try.underlying58 rfl X1.out ?_))
    go_ret
    exact ⟨ret_int R.out.symm, BE.out.trans (HB.out.mono WS.out)⟩
  · rw [h1] at IC
    cases h3 : inB step 0 400
    · have R : Hid (RATE c step = 0) := by show _ = _; unfold RATE; rw [if_neg (by rw [h3]; simp)]
      clear PL
      go_enter Try.func57, Try.ntmps57
      go_upto_region 1 with fail
      rw [HW.out]
      go_wp2_with (first
        | (go_at_call 107; refine (IC.out _).mono ?_; rintro e w1 ⟨rfl, hb⟩; have HB : Hid _ := hb; clear hb)
        | (go_at_call 111; refine (within_any _ _ _ _).mono ?_; rintro e w' ⟨rfl, hw'⟩; subst w'; rw [h3])
        | (refine wpList_load_row rfl 58 _ rfl w.heap.size rfl 58 X (0, 0) _ B0.out Try.underlying58 rfl X1.out ?_))
      go_ret
      exact ⟨ret_int R.out.symm, BE.out.trans (HB.out.mono WS.out)⟩
    · have R : Hid (RATE c step = PLN c step) := by show _ = _; unfold RATE; rw [if_pos ⟨h1, h3⟩]
      have PL2 : Hid (∀ w, Calls Try.prog 115 #[.agg X, .int .i64 step] w fun e w' => e = .returned (.int .u32 (PLN c step)) ∧ Below w.heap.size w w') := PL.out h1 h3
      obtain ⟨v, hv⟩ : ∃ v, v = PLN c step := ⟨_, rfl⟩
      rw [← hv] at R PL2
      clear PL hv
      go_enter Try.func57, Try.ntmps57
      go_upto_region 1 with fail
      rw [HW.out]
      go_wp2_with (first
        | (go_at_call 107; refine (IC.out _).mono ?_; rintro e w1 ⟨rfl, hb⟩; have HB : Hid _ := hb; have B1 : Hid (w1.heap[w.heap.size]? = some (.cells X 58 (0, 0))) := (hb.block _ WT.out).trans B0.out; have s1 := hb.size; clear hb)
        | (go_at_call 111; refine (within_any _ _ _ _).mono ?_; rintro e w' ⟨rfl, hw'⟩; subst w'; rw [h3])
        | (go_at_call 115; refine (PL2.out _).mono ?_; rintro e w2 ⟨rfl, hb⟩; have HB2 : Hid _ := hb; clear hb)
        | (refine wpList_load_row rfl 58 _ rfl w.heap.size rfl 58 X (0, 0) _ B1.out Try.underlying58 rfl X1.out ?_)
        | (refine wpList_load_row rfl 58 _ rfl w.heap.size rfl 58 X (0, 0) _ B0.out Try.underlying58 rfl X1.out ?_))
      go_ret
      exact ⟨ret_int R.out.symm, (BE.out.trans (HB.out.mono WS.out)).trans (HB2.out.mono (Nat.le_trans WS.out s1))⟩
end Go.Proofs.Ytkncmjnakjkndaa
