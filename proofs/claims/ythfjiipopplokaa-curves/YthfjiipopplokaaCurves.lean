/-
  'tutorlaw.Curves' is true for every whole number: soft.Exp, Sigmoid, Tanh and Cos answer as the document does (P4a). No condition.
-/
import Derived.Test.YthfjiipopplokaaRows
import Derived.WalkKit
import Derived.ProofKit
import Derived.OpenShut
import Derived.ShutString
import Derived.Test.YthfjiipopplokaaRefCurves
namespace Go.Proofs.Ythfjiipopplokaa
namespace Curves
open Go.ChangeShapes Go.WideShapes Go.ChangeAt Go.RowKit
open Go.ChangeMaps (open_string shut_string)
set_option linter.unusedSimpArgs false
set_option linter.unusedVariables false      -- a walk need not use every 'w<i>' (that an integer argument fits its kind)

theorem own : ownKnob Try.prog.godebug = none := by kernel_rfl

/-! ### STEP 1: THE WALK: the Go text returns true. 'Grown w w'': the world has at most new blocks (Derived/RowKit3.lean). Part the cases AHEAD of 'go_enter' where a test parts the walk; take each callee by a contract of your own. -/
set_option maxHeartbeats 4000000 in
theorem walk (a0 : Int) (w0 : (Lit.int .i64 a0).wf = true) (w : World) :
    Calls Try.prog 6 #[.int .i64 a0] w fun e w' => e = .returned (.bool true) ∧ Below w.heap.size w w' := by
  have wb0 := bounds_i64 w0
  have BB : Hid (Below w.heap.size w w) := Below.refl _ _
  obtain ⟨p0, p1⟩ := pat_bd a0
  have A := EXP_bd (pat a0)
  have B := SIG_bd (pat a0)
  have C := TANH_bd (pat a0)
  have D := COS_bd (pat a0)
  go_enter Try.func6, Try.ntmps6
  go_wp2_with (first | (go_at_call 11; refine (pattern_any _ _ (by omega) (by omega)).mono ?_; rintro e w' ⟨rfl, rfl⟩) | (go_at_call 29; refine (exp_any _ _ (by omega) (by omega)).mono ?_; rintro e wn ⟨rfl, hbn⟩; (first | replace BB := BBstep BB hbn | replace BB := BBstepA BB hbn); clear hbn) | (go_at_call 30; refine (sig_any _ _ (by omega) (by omega)).mono ?_; rintro e wn ⟨rfl, hbn⟩; (first | replace BB := BBstep BB hbn | replace BB := BBstepA BB hbn); clear hbn) | (go_at_call 31; refine (tanh_any _ _ (by omega) (by omega)).mono ?_; rintro e wn ⟨rfl, hbn⟩; (first | replace BB := BBstep BB hbn | replace BB := BBstepA BB hbn); clear hbn) | (go_at_call 32; refine (cos_any _ _ (by omega) (by omega)).mono ?_; rintro e wn ⟨rfl, hbn⟩; (first | replace BB := BBstep BB hbn | replace BB := BBstepA BB hbn); clear hbn) | (go_at_call 33; refine (rexp_any _ _ (by omega) (by omega)).mono ?_; rintro e wn ⟨rfl, hbn⟩; (first | replace BB := BBstep BB hbn | replace BB := BBstepA BB hbn); clear hbn) | (go_at_call 34; refine (rsig_any _ _ (by omega) (by omega)).mono ?_; rintro e wn ⟨rfl, hbn⟩; (first | replace BB := BBstep BB hbn | replace BB := BBstepA BB hbn); clear hbn) | (go_at_call 35; refine (rtanh_any _ _ (by omega) (by omega)).mono ?_; rintro e wn ⟨rfl, hbn⟩; (first | replace BB := BBstep BB hbn | replace BB := BBstepA BB hbn); clear hbn) | (go_at_call 36; refine (rcos_any _ _ (by omega) (by omega)).mono ?_; rintro e wn ⟨rfl, hbn⟩; (first | replace BB := BBstep BB hbn | replace BB := BBstepA BB hbn); clear hbn) | (go_at_call 14; refine (two_any _ _ _ (by omega) (by omega)).mono ?_; rintro e w' ⟨rfl, rfl⟩))
  go_ret
  exact ⟨ret_bool (by simp), BBend BB⟩

/-! ### THE ROW's STEP: WRITTEN OUT: LEAVE IT -/
set_option maxRecDepth 100000 in
theorem lifted (os : Os) (started : os.Started) (H : Type) (enc : TypeId × Value → H) :
    ReturnsInHanded {} Try.checked os 6 .any (Rows.curvesSpec.pre6 enc Try.prog Try.f6 Rows.curvesRow.domain false) (Rows.curvesSpec.post enc Try.prog Try.f6 false true false false) := by
  refine returnsInHanded_of_change (C := Try.checked) own started (by kernel_rfl) Try.func6
    (ChangeSpec.witness6 (enc := enc) (C := Try.checked) false ⟨#[], #[.int .i64 0], []⟩ 8 (by kernel_rfl) (by kernel_rfl) (by kernel_rfl) (by kernel_rfl)) ?_
  intro W base args ds gs before hval0 hW hcnd _
  have hval : ∀ (j : Nat) t v, Try.f6.params[j]? = some t → args[j]? = some v → Value.okWide Try.prog W .any base t v := hval0
  have hW' := hW
  obtain ⟨p, q, hA0, hV, rfl, hfz, hnd⟩ := hW
  have hA : DataW.TrodAll enc Try.prog W 0 (fun _ => true) true Try.f6.params.toList args.toList ds p := hA0
  rw [Try.params6] at hA hval
  obtain ⟨v0, vs0, d0, ds0, p0, q0, hargs, rfl, rfl, h0, r0⟩ := trodAll_cons hA
  obtain ⟨rfl, rfl, rfl⟩ := trodAll_nil r0
  obtain rfl : args = #[v0] := by cases args; simp_all
  obtain ⟨rfl, rfl⟩ := trodVars_none hV
  obtain ⟨a0, rfl, rfl, rfl, w0⟩ := open_int Try.underlying3 (hval 0 3 v0 rfl rfl) h0
  clear hA0 hval0
  simp only [List.append_nil] at hW'
  refine (walk a0 w0 W).mono fun e W' ⟨he, bel⟩ => ?_
  subst he
  exact ⟨_, rfl, _, _, _, [], [], [], hW', (trodAll_cons_mk (shut_bool Try.underlying4 _) trodAll_mk0), (trodAll_cons_mk (shut_int Try.underlying3 w0) trodAll_mk0), rfl, bel.frame _, fun h => by cases h⟩

theorem over : Rows.curvesRow.holds Try.pinned (OpenSpec.ofChange Rows.curvesSpec) :=
  OpenClaim.holds_of_wide 6 Try.f6 rfl rfl rfl rfl rfl rfl rfl ⟨rfl, rfl, rfl, rfl, rfl⟩ rfl rfl rfl rfl rfl (by kernel_rfl) Try.func6 (by kernel_rfl)
    (of_decide_eq_true (by kernel_rfl)) (by unfold Func.isWrapper; first | (rw [if_pos (by decide +kernel)]; kernel_rfl) | (rw [if_neg (by decide +kernel)]; exact ⟨rfl, rfl⟩))
    (fun os started H enc _ => lifted os started H enc)

end Curves
/-- THE STATEMENT -/
theorem curves_proved : Rows.CurvesSaid := Curves.over
end Go.Proofs.Ythfjiipopplokaa
