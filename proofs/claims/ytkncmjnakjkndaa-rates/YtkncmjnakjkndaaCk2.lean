/-
  Is it a configuration? The program's answer and the document's: one test. Conditions: none but that the numbers are ints.
-/
import Derived.Test.YtkncmjnakjkndaaCk1
namespace Go.Proofs.Ytkncmjnakjkndaa
open Go.RowKit
open Go.Joins (block_setCell cell_of_block unfrozen_of_block)
set_option linter.unusedVariables false
set_option linter.unusedSimpArgs false
def wd (c : Cf) : Nat → Int
  | 0 => c.w0
  | 1 => c.w1
  | 2 => c.w2
  | _ => c.w3
def okW (c : Cf) (k : Nat) : Bool := if (k : Int) ≤ c.L then inB (wd c k) 1 4 else wd c k == 0
def WID (c : Cf) : Bool := okW c 0 && okW c 1 && okW c 2 && okW c 3
theorem WID_t (c : Cf) (h : ∀ i, i < 4 → okW c i = true) : WID c = true := by
  unfold WID; rw [h 0 (by omega), h 1 (by omega), h 2 (by omega), h 3 (by omega)]; rfl
theorem WID_f (c : Cf) (i : Nat) (hi : i < 4) (h : okW c i = false) : WID c = false := by
  unfold WID
  match i, hi with
  | 0, _ => rw [h]; rfl
  | 1, _ => rw [h]; simp
  | 2, _ => rw [h]; simp
  | 3, _ => rw [h]; simp
theorem okW_in {c : Cf} {k : Nat} (h : (k : Int) ≤ c.L) : okW c k = inB (wd c k) 1 4 := by unfold okW; rw [if_pos h]
theorem okW_out {c : Cf} {k : Nat} (h : ¬ (k : Int) ≤ c.L) : okW c k = (wd c k == 0) := by unfold okW; rw [if_neg h]
/-- the block that a call lays of what it is handed -/
theorem one_block (w : World) (X : Array Value) (t : TypeId) : ∃ W, w.alloc (.cells X t) = W ∧ W.heap[w.heap.size]? = some (.cells X t (0, 0)) ∧ Below w.heap.size w W ∧ W.heap.size = w.heap.size + 1 :=
  ⟨_, rfl, heap_alloc_new w _, (Below.refl _ _).alloc (Nat.le_refl _) _, by simp⟩
theorem wide_0 (c : Cf) (w : World) : (Instr.index 51 (.agg #[.int .i64 c.w0, .int .i64 c.w1, .int .i64 c.w2, .int .i64 c.w3]) (.int .i64 0)).run Try.prog w = .ok (.int .i64 c.w0) w := by kernel_rfl
theorem wide_1 (c : Cf) (w : World) : (Instr.index 51 (.agg #[.int .i64 c.w0, .int .i64 c.w1, .int .i64 c.w2, .int .i64 c.w3]) (.int .i64 1)).run Try.prog w = .ok (.int .i64 c.w1) w := by kernel_rfl
theorem wide_2 (c : Cf) (w : World) : (Instr.index 51 (.agg #[.int .i64 c.w0, .int .i64 c.w1, .int .i64 c.w2, .int .i64 c.w3]) (.int .i64 2)).run Try.prog w = .ok (.int .i64 c.w2) w := by kernel_rfl
theorem wide_3 (c : Cf) (w : World) : (Instr.index 51 (.agg #[.int .i64 c.w0, .int .i64 c.w1, .int .i64 c.w2, .int .i64 c.w3]) (.int .i64 3)).run Try.prog w = .ok (.int .i64 c.w3) w := by kernel_rfl
theorem wide_at (c : Cf) (k : Nat) (hk : k < 4) (w : World) : (Instr.index 51 (.agg #[.int .i64 c.w0, .int .i64 c.w1, .int .i64 c.w2, .int .i64 c.w3]) (.int .i64 (k : Int))).run Try.prog w = .ok (.int .i64 (wd c k)) w := by
  rcases (show k = 0 ∨ k = 1 ∨ k = 2 ∨ k = 3 by omega) with rfl | rfl | rfl | rfl
  · exact wide_0 c w
  · exact wide_1 c w
  · exact wide_2 c w
  · exact wide_3 c w
set_option maxHeartbeats 2000000 in
set_option maxRecDepth 100000 in
theorem widths_any (c : Cf) (w : World) :
    Calls Try.prog 137 #[.agg (pcs c)] w fun e w' => e = .returned (.bool (WID c)) ∧ Below w.heap.size w w' := by
  obtain ⟨X, hX⟩ : ∃ X, X = pcs c := ⟨_, rfl⟩
  rw [← hX]
  obtain ⟨W, hW, b0, bel, hws⟩ := one_block w X 58
  have c0 : W.cell? ⟨w.heap.size, 0, none⟩ = some (.int .i64 c.L) := (cell_of_block b0 0).trans (by rw [hX]; rfl)
  have c1 : W.cell? ⟨w.heap.size, 1, none⟩ = some (.int .i64 c.w0) := (cell_of_block b0 1).trans (by rw [hX]; rfl)
  have c2 : W.cell? ⟨w.heap.size, 2, none⟩ = some (.int .i64 c.w1) := (cell_of_block b0 2).trans (by rw [hX]; rfl)
  have c3 : W.cell? ⟨w.heap.size, 3, none⟩ = some (.int .i64 c.w2) := (cell_of_block b0 3).trans (by rw [hX]; rfl)
  have c4 : W.cell? ⟨w.heap.size, 4, none⟩ = some (.int .i64 c.w3) := (cell_of_block b0 4).trans (by rw [hX]; rfl)
  have BE : Hid (Below w.heap.size w W) := bel
  have HW : Hid _ := hW
  clear b0 bel hW hX
  go_enter Try.func137, Try.ntmps137
  go_upto_region 1 with fail
  rw [HW.out]
  go_wp2
  clear c1 c2 c3 c4
  go_loop [7] (fun iv => ∃ k : Nat, k ≤ 4 ∧ iv = .int .i64 k ∧ Hid (∀ i, i < k → okW c i = true)) (fun iv => 4 - (intOf iv).toNat)
  case atStart => exact ⟨0, by omega, rfl, fun i h => absurd h (by omega)⟩
  case round =>
    obtain ⟨k, hk, rfl, OK⟩ := hrel
    by_cases hlt : k < 4
    · have hx := wide_at c k hlt
      have EQi : Hid ((k : Int) ≤ c.L → okW c k = inB (wd c k) 1 4) := okW_in
      have EQo : Hid (¬ (k : Int) ≤ c.L → okW c k = (wd c k == 0)) := okW_out
      have FF : Hid (okW c k = false → WID c = false) := WID_f c k hlt
      obtain ⟨x, hxx⟩ : ∃ x, x = wd c k := ⟨_, rfl⟩
      rw [← hxx] at hx EQi EQo
      clear hxx
      have hk4 : (k : Int) < 4 := by omega
      by_cases hL : (k : Int) ≤ c.L
      · cases hq : inB x 1 4
        · have R : Hid (WID c = false) := FF.out (by rw [EQi.out hL, hq])
          clear OK EQi EQo FF
          go_wp2_with (first | (go_at_call 111; refine (within_any _ _ _ _).mono ?_; rintro e w' ⟨rfl, hw'⟩; subst w'; rw [hq]))
          go_ret
          exact ⟨ret_bool R.out.symm, BE.out⟩
        · have R : Hid (okW c k = true) := by show _ = _; rw [EQi.out hL, hq]
          clear EQi EQo FF
          go_wp2_with (first | (go_at_call 111; refine (within_any _ _ _ _).mono ?_; rintro e w' ⟨rfl, hw'⟩; subst w'; rw [hq]))
          go_round
          case rel =>
            refine ⟨k + 1, by omega, by go_num, fun i hi => ?_⟩
            rcases Nat.lt_succ_iff_lt_or_eq.1 hi with h | h
            · exact OK.out i h
            · rw [h]; exact R.out
          case measure => simp [intOf]; omega
      · cases hq : (x == 0)
        · have R : Hid (WID c = false) := FF.out (by rw [EQo.out hL, hq])
          clear OK EQi EQo FF
          go_wp2
          go_ret
          exact ⟨ret_bool R.out.symm, BE.out⟩
        · have R : Hid (okW c k = true) := by show _ = _; rw [EQo.out hL, hq]
          clear EQi EQo FF
          go_wp2
          go_round
          case rel =>
            refine ⟨k + 1, by omega, by go_num, fun i hi => ?_⟩
            rcases Nat.lt_succ_iff_lt_or_eq.1 hi with h | h
            · exact OK.out i h
            · rw [h]; exact R.out
          case measure => simp [intOf]; omega
    · have R : Hid (WID c = true) := WID_t c fun i hi => OK.out i (by omega)
      clear OK
      go_wp2
      go_ret
      exact ⟨ret_bool R.out.symm, BE.out⟩
/-- is it a configuration? -/
def ALW (c : Cf) : Bool := inB c.L 1 3 && WID c && inB c.bend 0 2 && inB c.loss 0 1 && inB c.rule 0 1 && inB c.plan 0 2 && inB c.batch 1 4 && inB c.steps 0 200 && inB c.every 1 200 && inB c.span 1 200 && inB c.warm 0 c.steps
theorem wpList_load_row_g {P : Program} {ops : Array Oper} {rest : List Oper} {o : Oper} {a : Act} {w : World} {Q : Exit → Act → World → Prop} (hw : Region.wanted o (yielded ops a.tmps) = true) (ty : TypeId) (x : Operand) (ho : o.op = .load ty x)
    (g : Nat) (hx : a.eval x = .pointer (some ⟨g, 0, none⟩)) (t : TypeId) (cs : Array Value) (fr : Nat × Nat) (d : TypeDesc) (hg : w.heap[g]? = some (.cells cs t fr))
    (hu : P.underlying ty = some d) (hd : (match d with | .struct _ | .array _ _ => true | _ => false) = true) (hi : (P.info? ty).map (·.size) = some cs.size)
    (h : wpList P ops Q rest (a.put o.dst (.agg cs)) w) : wpList P ops Q (o :: rest) a w := by
  simp only [wpList, hw, if_true]
  exact Or.inl (wp_load_row ty x ho g hx t cs fr d hg hu hd hi h)
set_option maxHeartbeats 4000000 in
set_option maxRecDepth 100000 in
theorem isConfig_any (c : Cf) (w : World) :
    Calls Try.prog 107 #[.agg (pcs c)] w fun e w' => e = .returned (.bool (ALW c)) ∧ Below w.heap.size w w' := by
  obtain ⟨X, hX⟩ : ∃ X, X = pcs c := ⟨_, rfl⟩
  rw [← hX]
  obtain ⟨W, hW, b0, bel, hws⟩ := one_block w X 58
  have c0 : W.cell? ⟨w.heap.size, 0, none⟩ = some (.int .i64 c.L) := (cell_of_block b0 0).trans (by rw [hX]; rfl)
  have c5 : W.cell? ⟨w.heap.size, 5, none⟩ = some (.int .i64 c.bend) := (cell_of_block b0 5).trans (by rw [hX]; rfl)
  have c6 : W.cell? ⟨w.heap.size, 6, none⟩ = some (.int .i64 c.loss) := (cell_of_block b0 6).trans (by rw [hX]; rfl)
  have c7 : W.cell? ⟨w.heap.size, 7, none⟩ = some (.int .i64 c.rule) := (cell_of_block b0 7).trans (by rw [hX]; rfl)
  have c8 : W.cell? ⟨w.heap.size, 8, none⟩ = some (.int .i64 c.plan) := (cell_of_block b0 8).trans (by rw [hX]; rfl)
  have c9 : W.cell? ⟨w.heap.size, 9, none⟩ = some (.int .i64 c.batch) := (cell_of_block b0 9).trans (by rw [hX]; rfl)
  have c10 : W.cell? ⟨w.heap.size, 10, none⟩ = some (.int .i64 c.steps) := (cell_of_block b0 10).trans (by rw [hX]; rfl)
  have c11 : W.cell? ⟨w.heap.size, 11, none⟩ = some (.int .i64 c.every) := (cell_of_block b0 11).trans (by rw [hX]; rfl)
  have c12 : W.cell? ⟨w.heap.size, 12, none⟩ = some (.int .i64 c.span) := (cell_of_block b0 12).trans (by rw [hX]; rfl)
  have c13 : W.cell? ⟨w.heap.size, 13, none⟩ = some (.int .i64 c.warm) := (cell_of_block b0 13).trans (by rw [hX]; rfl)
  have B0 : Hid _ := b0
  have BE : Hid (Below w.heap.size w W) := bel
  have HW : Hid _ := hW
  have HX : Hid _ := hX
  have X1 : Hid ((Try.prog.info? 58).map (·.size) = some X.size) := by show _ = _; rw [hX]; kernel_rfl
  have WS : Hid (w.heap.size ≤ W.heap.size) := by show _ ≤ _; omega
  have WT : Hid (w.heap.size < W.heap.size) := by show _ < _; omega
  clear b0 bel hW hX hws
  cases h1 : inB c.L 1 3
  · have R : Hid (ALW c = false) := by show _ = _; unfold ALW; rw [h1]; rfl
    go_enter Try.func107, Try.ntmps107
    go_upto_region 1 with fail
    rw [HW.out]
    go_wp2_with (first | (go_at_call 111; refine (within_any _ _ _ _).mono ?_; rintro e w' ⟨rfl, hw'⟩; subst w'; rw [h1]))
    go_ret
    exact ⟨ret_bool R.out.symm, BE.out⟩
  · cases h2 : WID c
    · have R : Hid (ALW c = false) := by show _ = _; unfold ALW; rw [h1, h2]; rfl
      go_enter Try.func107, Try.ntmps107
      go_upto_region 1 with fail
      rw [HW.out]
      go_wp2_with (first
        | (go_at_call 111; refine (within_any _ _ _ _).mono ?_; rintro e w' ⟨rfl, hw'⟩; subst w'; rw [h1])
        | (go_at_call 137; rw [HX.out]; refine (widths_any c _).mono ?_; rintro e w' ⟨rfl, hb⟩; rw [h2]; have HB : Hid _ := hb; clear hb)
        | (refine wpList_load_row_g rfl 58 _ rfl w.heap.size rfl 58 X (0, 0) _ B0.out Try.underlying58 rfl X1.out ?_))
      go_ret
      exact ⟨ret_bool R.out.symm, BE.out.trans (HB.out.mono WS.out)⟩
    · go_enter Try.func107, Try.ntmps107
      go_upto_region 1 with fail
      rw [HW.out]
      go_wp2_with (first
        | (go_at_call 111; refine (within_any _ _ _ _).mono ?_; rintro e w' ⟨rfl, hw'⟩; subst w'; first | rw [h1] | skip)
        | (go_at_call 137; rw [HX.out]; refine (widths_any c _).mono ?_; rintro e w' ⟨rfl, hb⟩; rw [h2]; have BW2 : Hid (Below w.heap.size w w') := BE.out.trans (hb.mono WS.out)
           have d5 := (hb.cell (p := ⟨w.heap.size, 5, none⟩) WT.out).trans c5
           have d6 := (hb.cell (p := ⟨w.heap.size, 6, none⟩) WT.out).trans c6
           have d7 := (hb.cell (p := ⟨w.heap.size, 7, none⟩) WT.out).trans c7
           have d8 := (hb.cell (p := ⟨w.heap.size, 8, none⟩) WT.out).trans c8
           have d9 := (hb.cell (p := ⟨w.heap.size, 9, none⟩) WT.out).trans c9
           have d10 := (hb.cell (p := ⟨w.heap.size, 10, none⟩) WT.out).trans c10
           have d11 := (hb.cell (p := ⟨w.heap.size, 11, none⟩) WT.out).trans c11
           have d12 := (hb.cell (p := ⟨w.heap.size, 12, none⟩) WT.out).trans c12
           have d13 := (hb.cell (p := ⟨w.heap.size, 13, none⟩) WT.out).trans c13
           clear hb c0 c5 c6 c7 c8 c9 c10 c11 c12 c13)
        | (refine wpList_load_row_g rfl 58 _ rfl w.heap.size rfl 58 X (0, 0) _ B0.out Try.underlying58 rfl X1.out ?_))
      all_goals go_ret
      all_goals refine ⟨ret_bool ?_, BW2.out⟩
      all_goals simp_all [ALW]
end Go.Proofs.Ytkncmjnakjkndaa
