/-
  'tutorlaw.Rates' is true for every configuration and every whole number: RateAt answers as the document does (P9). No condition.
-/
import Derived.Test.YtkncmjnakjkndaaRows
import Derived.WalkKit
import Derived.ProofKit
import Derived.OpenShut
import Derived.ShutString
import Derived.Carry
import Derived.Test.YtkncmjnakjkndaaRt3
import Derived.Test.YtkncmjnakjkndaaCfg2
namespace Go.Proofs.Ytkncmjnakjkndaa
namespace Rates
open Go.ChangeShapes Go.WideShapes Go.ChangeAt Go.RowKit
open Go.ChangeMaps (open_string shut_string)
set_option linter.unusedSimpArgs false
set_option linter.unusedVariables false

theorem own : ownKnob Try.prog.godebug = none := by kernel_rfl
/-- a block that a call lays: it is written whole -/
theorem new_row (w : World) (Z Y : Array Value) (t : TypeId) : ∃ V, (w.alloc (.cells Z t)).setRow w.heap.size Y = V ∧ V.heap[w.heap.size]? = some (.cells Y t (0, 0)) ∧ Below w.heap.size w V ∧ w.heap.size < V.heap.size :=
  ⟨_, rfl, setRow_heap _ _ _ _ _ _ (heap_alloc_new w _), Below.setRow ((Below.refl _ _).alloc (Nat.le_refl _) _) (Nat.le_refl _) _, by simp [World.setRow]⟩
theorem WAV_bd (c : Cf) (step : Int) : 0 ≤ WAV c step ∧ WAV c step < 4294967296 := by
  unfold WAV; split
  · exact MUL_bd _ _
  · exact MUL_bd _ _
theorem RATE_bd (c : Cf) (step : Int) (h : c.ok2) : 0 ≤ RATE c step ∧ RATE c step < 4294967296 := by
  unfold RATE PLN
  split
  · split
    · exact HLV_bd _ _ h.rate.1 h.rate.2
    · split
      · exact WAV_bd c step
      · exact h.rate
  · omega
set_option maxHeartbeats 4000000 in
set_option maxRecDepth 100000 in
theorem walk (c : Cf) (hc : c.ok) (a1 : Int) (w1 : (Lit.int .i64 a1).wf = true) (w : World) :
    Calls Try.prog 14 #[.agg (rcs c), .int .i64 a1] w fun e w' => e = .returned (.bool true) ∧ Below w.heap.size w w' := by
  obtain ⟨X, hX⟩ : ∃ X, X = rcs c := ⟨_, rfl⟩
  rw [← hX]
  obtain ⟨W, hW, b0, bel, hws⟩ := one_block w X 53
  have B0 : Hid _ := b0
  have BE : Hid (Below w.heap.size w W) := bel
  have HW : Hid _ := hW
  have X1 : Hid ((Try.prog.info? 53).map (·.size) = some X.size) := by show _ = _; rw [hX]; kernel_rfl
  have WS : Hid (w.heap.size ≤ W.heap.size) := by show _ ≤ _; omega
  obtain ⟨Y, hY⟩ : ∃ Y, Y = rcs (cl c) := ⟨_, rfl⟩
  have Y1 : Hid ((Try.prog.info? 53).map (·.size) = some Y.size) := by show _ = _; rw [hY]; kernel_rfl
  have YZ : Hid (zcs.size = Y.size ∧ Y.size = 20 ∧ Y.all (·.oneCell') = true) := by show _ ∧ _ ∧ _; rw [hY]; exact ⟨rfl, rfl, rcs_one _⟩
  have CL : Hid (∀ w, Calls Try.prog 50 #[.agg (rcs c)] w fun e w' => e = .returned (.agg (rcs (cl c))) ∧ Below w.heap.size w w') := fun w => clean_any c w hc
  rw [← hX, ← hY] at CL
  have CF : Hid (∀ w, Calls Try.prog 52 #[.agg (rcs (cl c))] w fun e w' => e = .returned (.agg (pcs (cl c))) ∧ Below w.heap.size w w') := fun w => conf_any (cl c) w (cl_ok2 c)
  have CH : Hid (∀ w, Calls Try.prog 57 #[.agg (pcs (cl c)), .int .i64 a1] w fun e w' => e = .returned (.int .u32 (RATE (cl c) a1)) ∧ Below w.heap.size w w') := fun w => rateAt_any (cl c) a1 w (cl_ok2 c)
  have RC : Hid (∀ w, Calls Try.prog 58 #[.agg (rcs (cl c)), .int .i64 a1] w fun e w' => e = .returned (.int .i64 (RATE (cl c) a1)) ∧ Below w.heap.size w w') := fun w => rrateAt_any (cl c) a1 w (cl_ok2 c)
  have bd := RATE_bd (cl c) a1 (cl_ok2 c)
  rw [← hY] at CF RC
  obtain ⟨Pv, hPv⟩ : ∃ P, P = pcs (cl c) := ⟨_, rfl⟩
  rw [← hPv] at CF CH
  obtain ⟨R, hR⟩ : ∃ R, R = RATE (cl c) a1 := ⟨_, rfl⟩
  rw [← hR] at CH RC bd
  clear b0 bel hW hws hX hY hPv hR hc w1
  go_enter Try.func14, Try.ntmps14
  go_upto_region 1 with fail
  rw [HW.out]
  go_upto_region 2 with (first
    | (go_at_call 50; refine (CL.out _).mono ?_; rintro e w1 ⟨rfl, hb⟩; have HB1 : Hid _ := hb; clear hb)
    | (refine wpList_load_row rfl 53 _ rfl w.heap.size rfl 53 X (0, 0) _ B0.out Try.underlying53 rfl X1.out ?_)
    | (refine wpList_store_row rfl 53 _ _ rfl w1.heap.size Y rfl rfl 53 zcs (heap_alloc_new w1 _) Y1.out YZ.out.1 YZ.out.2.2 ?_))
  obtain ⟨V, hV, v0, vb, vs⟩ := new_row w1 zcs Y 53
  unfold zcs at hV
  rw [hV]
  have V0 : Hid _ := v0
  have VB : Hid (Below w.heap.size w V) := (BE.out.trans (HB1.out.mono WS.out)).trans (vb.mono (Nat.le_trans WS.out HB1.out.size))
  clear hV v0 vb B0 X1 CL
  go_upto_region 3 with (first
    | (go_at_call 52; refine (CF.out _).mono ?_; rintro e w2 ⟨rfl, hb⟩; have HB2 : Hid _ := hb; clear hb)
    | (go_at_call 57; refine (CH.out _).mono ?_; rintro e w3 ⟨rfl, hb⟩; have HB3 : Hid _ := hb; clear hb)
    | (refine wpList_load_row rfl 53 _ rfl w1.heap.size rfl 53 Y (0, 0) _ V0.out Try.underlying53 rfl Y1.out ?_))
  have V3 : Hid (w3.heap[w1.heap.size]? = some (.cells Y 53 (0, 0))) := by
    show _ = _
    rw [HB3.out.block _ (Nat.lt_of_lt_of_le vs HB2.out.size), HB2.out.block _ vs]; exact V0.out
  have B3 : Hid (Below w.heap.size w w3) := (VB.out.trans (HB2.out.mono VB.out.size)).trans (HB3.out.mono (Nat.le_trans VB.out.size HB2.out.size))
  clear V0 VB HB2 HB3 HB1 vs
  go_wp2_with (first
    | (go_at_call 58; refine (RC.out _).mono ?_; rintro e w4 ⟨rfl, hb⟩; have HB4 : Hid _ := hb; clear hb)
    | (go_at_call 18; refine (two_any _ _ _ bd.1 bd.2).mono ?_; rintro e w' ⟨rfl, hw'⟩; subst w')
    | (refine wpList_load_row rfl 53 _ rfl w1.heap.size rfl 53 Y (0, 0) _ V3.out Try.underlying53 rfl Y1.out ?_))
  go_ret
  exact ⟨ret_bool (by simp), B3.out.trans (HB4.out.mono B3.out.size)⟩
/-! ### THE ROW's STEP: WRITTEN OUT: LEAVE IT -/
set_option maxRecDepth 100000 in
theorem lifted (os : Os) (started : os.Started) (H : Type) (enc : TypeId × Value → H) :
    ReturnsInHanded {} Try.checked os 14 .any (Rows.ratesSpec.pre6 enc Try.prog Try.f14 Rows.ratesRow.domain false) (Rows.ratesSpec.post enc Try.prog Try.f14 false true false false) := by
  refine returnsInHanded_of_change (C := Try.checked) own started (by kernel_rfl) Try.func14
    (ChangeSpec.witness6 (enc := enc) (C := Try.checked) false ⟨#[], #[.agg #[.int .i64 0, .int .i64 0, .int .i64 0, .int .i64 0, .int .i64 0, .int .i64 0, .int .i64 0, .int .i64 0, .int .i64 0, .int .i64 0, .int .i64 0, .int .i64 0, .int .i64 0, .int .i64 0, .int .i64 0, .int .i64 0, .int .i64 0, .int .i64 0, .int .i64 0, .int .i64 0], .int .i64 0], []⟩ 8 (by kernel_rfl) (by kernel_rfl) (by kernel_rfl) (by kernel_rfl)) ?_
  intro W base args ds gs before hval0 hW hcnd _
  have hval : ∀ (j : Nat) t v, Try.f14.params[j]? = some t → args[j]? = some v → Value.okWide Try.prog W .any base t v := hval0
  have hW' := hW
  obtain ⟨p, q, hA0, hV, rfl, hfz, hnd⟩ := hW
  have hA : DataW.TrodAll enc Try.prog W 0 (fun _ => true) true Try.f14.params.toList args.toList ds p := hA0
  rw [Try.params14] at hA hval
  obtain ⟨v0, vs0, d0, ds0, p0, q0, hargs, rfl, rfl, h0, r0⟩ := trodAll_cons hA
  obtain ⟨v1, vs1, d1, ds1, p1, q1, rfl, rfl, rfl, h1, r1⟩ := trodAll_cons r0
  obtain ⟨rfl, rfl, rfl⟩ := trodAll_nil r1
  obtain rfl : args = #[v0, v1] := by cases args; simp_all
  obtain ⟨rfl, rfl⟩ := trodVars_none hV
  obtain ⟨a1, rfl, rfl, rfl, k1⟩ := open_int Try.underlying3 (hval 1 3 v1 rfl rfl) h1
  obtain ⟨c, rfl, hc⟩ := cfg_open (hval 0 53 v0 rfl rfl) h0
  clear hA0 hval0
  simp only [List.append_nil] at hW'
  have hlt : ∀ x ∈ p0, x.block < W.heap.size := fun x hx => by simpa using hW'.lt x (by simpa using hx)
  refine (walk c hc a1 k1 W).mono fun e W' ⟨he, bel⟩ => ?_
  subst he
  exact ⟨_, rfl, _, _, _, [], p0, [], hW', (trodAll_cons_mk (shut_bool Try.underlying4 _) trodAll_mk0), (by have := trodAll_cons_mk (Below.trod Try.laidOut (by kernel_rfl) (of_decide_eq_true (by kernel_rfl)) h0 bel hlt) (trodAll_cons_mk (shut_int Try.underlying3 k1) trodAll_mk0); simp only [List.append_nil] at this; exact this), rfl, bel.frame _, fun h => by cases h⟩

theorem over : Rows.ratesRow.holds Try.pinned (OpenSpec.ofChange Rows.ratesSpec) :=
  OpenClaim.holds_of_wide 14 Try.f14 rfl rfl rfl rfl rfl rfl rfl ⟨rfl, rfl, rfl, rfl, rfl⟩ rfl rfl rfl rfl rfl (by kernel_rfl) Try.func14 (by kernel_rfl)
    (of_decide_eq_true (by kernel_rfl)) (by unfold Func.isWrapper; first | (rw [if_pos (by decide +kernel)]; kernel_rfl) | (rw [if_neg (by decide +kernel)]; exact ⟨rfl, rfl⟩))
    (fun os started H enc _ => lifted os started H enc)

end Rates
/-- THE STATEMENT -/
theorem rates_proved : Rows.RatesSaid := Rates.over
end Go.Proofs.Ytkncmjnakjkndaa
