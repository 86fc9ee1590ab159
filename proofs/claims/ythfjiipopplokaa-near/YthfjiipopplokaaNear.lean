/-
  'tutorkeep.Near' is true for every two patterns: sums of one sign do not fall below, halves add up, no root is below 0 (P2, P3). No condition.
-/
import Derived.Test.YthfjiipopplokaaRows
import Derived.WalkKit
import Derived.ProofKit
import Derived.OpenShut
import Derived.ShutString
import Derived.Test.YthfjiipopplokaaKeepWalk
namespace Go.Proofs.Ythfjiipopplokaa
namespace Near
open Go.ChangeShapes Go.WideShapes Go.ChangeAt Go.RowKit
open Go.ChangeMaps (open_string shut_string)
set_option linter.unusedSimpArgs false
set_option linter.unusedVariables false      -- a walk need not use every 'w<i>' (that an integer argument fits its kind)

theorem own : ownKnob Try.prog.godebug = none := by kernel_rfl

/-! ### STEP 1: THE WALK: the Go text returns true. 'Grown w w'': the world has at most new blocks (Derived/RowKit3.lean). Part the cases AHEAD of 'go_enter' where a test parts the walk; take each callee by a contract of your own. -/
theorem walk (a0 : Int) (a1 : Int) (w0 : (Lit.int .u32 a0).wf = true) (w1 : (Lit.int .u32 a1).wf = true) (w : World) :
    Calls Try.prog 9 #[.int .u32 a0, .int .u32 a1] w fun e w' => e = .returned (.bool true) ∧ Below w.heap.size w w' := by
  have wb0 := bounds_u32 w0
  have wb1 := bounds_u32 w1
  obtain ⟨x, hx⟩ : ∃ x, x = a0 % 2147483648 := ⟨_, rfl⟩
  obtain ⟨y, hy⟩ : ∃ y, y = a1 % 2147483648 := ⟨_, rfl⟩
  have bx : 0 ≤ x ∧ x < 2147483648 := by omega
  have byy : 0 ≤ y ∧ y < 2147483648 := by omega
  have hx' := hx.symm
  have hy' := hy.symm
  clear hx hy
  by_cases nx : 2139095040 < x
  · have k1 : kNone x = true := kNone_t (by omega)
    have k2 : ADD x y = 2143289344 := ADD_none (.inl (isNone_t (by omega)))
    clear nx
    go_enter Try.func9, Try.ntmps9
    go_wp2_with (first | (go_at_call 38; refine (ksize_any _ _ (by omega) (by omega)).mono ?_; rintro e w' ⟨rfl, rfl⟩) | (go_at_call 39; refine (knone_any _ _ (by omega) (by omega)).mono ?_; rintro e w' ⟨rfl, rfl⟩) | (go_at_call 12; refine (add_any _ _ _ (by omega) (by omega) (by omega) (by omega)).mono ?_; rintro e w' ⟨rfl, rfl⟩) | (go_at_call 22; refine (less_any _ _ _ (by omega) (by omega) (by omega) (by omega)).mono ?_; rintro e w' ⟨rfl, rfl⟩) | (go_at_call 17; refine (mul_any _ _ _ (by omega) (by omega) (by omega) (by omega)).mono ?_; rintro e w' ⟨rfl, rfl⟩) | (go_at_call 21; refine (sqrt_any _ _ (by omega) (by omega)).mono ?_; rintro e w' ⟨rfl, rfl⟩))
    go_ret
    exact ⟨ret_bool (by simp), Below.refl _ _⟩
  · have k1 : kNone x = false := kNone_f (by omega)
    by_cases ny : 2139095040 < y
    · have k1' : kNone y = true := kNone_t (by omega)
      have k2 : ADD x y = 2143289344 := ADD_none (.inr (isNone_t (by omega)))
      clear nx ny
      go_enter Try.func9, Try.ntmps9
      go_wp2_with (first | (go_at_call 38; refine (ksize_any _ _ (by omega) (by omega)).mono ?_; rintro e w' ⟨rfl, rfl⟩) | (go_at_call 39; refine (knone_any _ _ (by omega) (by omega)).mono ?_; rintro e w' ⟨rfl, rfl⟩) | (go_at_call 12; refine (add_any _ _ _ (by omega) (by omega) (by omega) (by omega)).mono ?_; rintro e w' ⟨rfl, rfl⟩) | (go_at_call 22; refine (less_any _ _ _ (by omega) (by omega) (by omega) (by omega)).mono ?_; rintro e w' ⟨rfl, rfl⟩) | (go_at_call 17; refine (mul_any _ _ _ (by omega) (by omega) (by omega) (by omega)).mono ?_; rintro e w' ⟨rfl, rfl⟩) | (go_at_call 21; refine (sqrt_any _ _ (by omega) (by omega)).mono ?_; rintro e w' ⟨rfl, rfl⟩))
      go_ret
      exact ⟨ret_bool (by simp), Below.refl _ _⟩
    · have k1' : kNone y = false := kNone_f (by omega)
      obtain ⟨g1, g2, g3⟩ := ADD_ge x y bx.1 (by omega) byy.1 (by omega)
      obtain ⟨r1, r2, r3⟩ := SQRT_ok x bx.1 (by omega)
      have c1 : LESS (ADD x y) x = false := LESS_false fun _ _ => by rw [plc_pos (by omega), plc_pos (by omega)]; exact g1
      have c2 : LESS (ADD x y) y = false := LESS_false fun _ _ => by rw [plc_pos (by omega), plc_pos (by omega)]; exact g2
      have c3 : LESS (SQRT x) 0 = false := LESS_false fun _ _ => by rw [plc_pos (by omega), plc_pos (by omega)]; exact r1
      have mb := MUL_bd x 1056964608
      obtain ⟨S, hS⟩ : ∃ S, S = ADD x y := ⟨_, rfl⟩
      obtain ⟨R, hR⟩ : ∃ R, R = SQRT x := ⟨_, rfl⟩
      obtain ⟨H, hH⟩ : ∃ H, H = MUL x 1056964608 := ⟨_, rfl⟩
      have tb := ADD_bd H H (by omega) (by omega) (by omega) (by omega)
      have ht : 16777216 ≤ x → ADD H H = x := fun h => by rw [hH]; exact half_twice x h (by omega)
      rw [← hS] at c1 c2 g1 g2 g3
      rw [← hR] at c3 r1 r2 r3
      rw [← hH] at mb
      replace hS := hS.symm
      replace hR := hR.symm
      replace hH := hH.symm
      have hz : (x == 0 || R != 0) = true := by
        by_cases h : x = 0
        · simp [h]
        · have := r3 h; simp [this]
      have HZ : Hid _ := hz
      clear hz r3
      by_cases hb : 16777216 ≤ x
      · have ht := ht hb
        have h0 : (x == 0) = false := by simp only [beq_eq_false_iff_ne, ne_eq]; omega
        have hz := HZ.out
        rw [h0, Bool.false_or] at hz
        clear HZ nx ny
        go_enter Try.func9, Try.ntmps9
        go_wp2_with (first | (go_at_call 38; refine (ksize_any _ _ (by omega) (by omega)).mono ?_; rintro e w' ⟨rfl, rfl⟩) | (go_at_call 39; refine (knone_any _ _ (by omega) (by omega)).mono ?_; rintro e w' ⟨rfl, rfl⟩) | (go_at_call 12; refine (add_any _ _ _ (by omega) (by omega) (by omega) (by omega)).mono ?_; rintro e w' ⟨rfl, rfl⟩) | (go_at_call 22; refine (less_any _ _ _ (by omega) (by omega) (by omega) (by omega)).mono ?_; rintro e w' ⟨rfl, rfl⟩) | (go_at_call 17; refine (mul_any _ _ _ (by omega) (by omega) (by omega) (by omega)).mono ?_; rintro e w' ⟨rfl, rfl⟩) | (go_at_call 21; refine (sqrt_any _ _ (by omega) (by omega)).mono ?_; rintro e w' ⟨rfl, rfl⟩))
        go_ret
        exact ⟨ret_bool (by simp), Below.refl _ _⟩
      · clear ht
        cases h0 : (x == 0)
        · have hz := HZ.out
          rw [h0, Bool.false_or] at hz
          clear HZ nx ny
          go_enter Try.func9, Try.ntmps9
          go_wp2_with (first | (go_at_call 38; refine (ksize_any _ _ (by omega) (by omega)).mono ?_; rintro e w' ⟨rfl, rfl⟩) | (go_at_call 39; refine (knone_any _ _ (by omega) (by omega)).mono ?_; rintro e w' ⟨rfl, rfl⟩) | (go_at_call 12; refine (add_any _ _ _ (by omega) (by omega) (by omega) (by omega)).mono ?_; rintro e w' ⟨rfl, rfl⟩) | (go_at_call 22; refine (less_any _ _ _ (by omega) (by omega) (by omega) (by omega)).mono ?_; rintro e w' ⟨rfl, rfl⟩) | (go_at_call 17; refine (mul_any _ _ _ (by omega) (by omega) (by omega) (by omega)).mono ?_; rintro e w' ⟨rfl, rfl⟩) | (go_at_call 21; refine (sqrt_any _ _ (by omega) (by omega)).mono ?_; rintro e w' ⟨rfl, rfl⟩))
          go_ret
          exact ⟨ret_bool (by simp), Below.refl _ _⟩
        · clear HZ nx ny
          go_enter Try.func9, Try.ntmps9
          go_wp2_with (first | (go_at_call 38; refine (ksize_any _ _ (by omega) (by omega)).mono ?_; rintro e w' ⟨rfl, rfl⟩) | (go_at_call 39; refine (knone_any _ _ (by omega) (by omega)).mono ?_; rintro e w' ⟨rfl, rfl⟩) | (go_at_call 12; refine (add_any _ _ _ (by omega) (by omega) (by omega) (by omega)).mono ?_; rintro e w' ⟨rfl, rfl⟩) | (go_at_call 22; refine (less_any _ _ _ (by omega) (by omega) (by omega) (by omega)).mono ?_; rintro e w' ⟨rfl, rfl⟩) | (go_at_call 17; refine (mul_any _ _ _ (by omega) (by omega) (by omega) (by omega)).mono ?_; rintro e w' ⟨rfl, rfl⟩) | (go_at_call 21; refine (sqrt_any _ _ (by omega) (by omega)).mono ?_; rintro e w' ⟨rfl, rfl⟩))
          go_ret
          exact ⟨ret_bool (by simp), Below.refl _ _⟩

/-! ### THE ROW's STEP: WRITTEN OUT: LEAVE IT -/
set_option maxRecDepth 100000 in
theorem lifted (os : Os) (started : os.Started) (H : Type) (enc : TypeId × Value → H) :
    ReturnsInHanded {} Try.checked os 9 .any (Rows.nearSpec.pre6 enc Try.prog Try.f9 Rows.nearRow.domain false) (Rows.nearSpec.post enc Try.prog Try.f9 false true false false) := by
  refine returnsInHanded_of_change (C := Try.checked) own started (by kernel_rfl) Try.func9
    (ChangeSpec.witness6 (enc := enc) (C := Try.checked) false ⟨#[], #[.int .u32 0, .int .u32 0], []⟩ 8 (by kernel_rfl) (by kernel_rfl) (by kernel_rfl) (by kernel_rfl)) ?_
  intro W base args ds gs before hval0 hW hcnd _
  have hval : ∀ (j : Nat) t v, Try.f9.params[j]? = some t → args[j]? = some v → Value.okWide Try.prog W .any base t v := hval0
  have hW' := hW
  obtain ⟨p, q, hA0, hV, rfl, hfz, hnd⟩ := hW
  have hA : DataW.TrodAll enc Try.prog W 0 (fun _ => true) true Try.f9.params.toList args.toList ds p := hA0
  rw [Try.params9] at hA hval
  obtain ⟨v0, vs0, d0, ds0, p0, q0, hargs, rfl, rfl, h0, r0⟩ := trodAll_cons hA
  obtain ⟨v1, vs1, d1, ds1, p1, q1, rfl, rfl, rfl, h1, r1⟩ := trodAll_cons r0
  obtain ⟨rfl, rfl, rfl⟩ := trodAll_nil r1
  obtain rfl : args = #[v0, v1] := by cases args; simp_all
  obtain ⟨rfl, rfl⟩ := trodVars_none hV
  obtain ⟨a0, rfl, rfl, rfl, w0⟩ := open_int Try.underlying23 (hval 0 23 v0 rfl rfl) h0
  obtain ⟨a1, rfl, rfl, rfl, w1⟩ := open_int Try.underlying23 (hval 1 23 v1 rfl rfl) h1
  clear hA0 hval0
  simp only [List.append_nil] at hW'
  refine (walk a0 a1 w0 w1 W).mono fun e W' ⟨he, bel⟩ => ?_
  subst he
  exact ⟨_, rfl, _, _, _, [], [], [], hW', (trodAll_cons_mk (shut_bool Try.underlying4 _) trodAll_mk0), (trodAll_cons_mk (shut_int Try.underlying23 w0) (trodAll_cons_mk (shut_int Try.underlying23 w1) trodAll_mk0)), rfl, bel.frame _, fun h => by cases h⟩

theorem over : Rows.nearRow.holds Try.pinned (OpenSpec.ofChange Rows.nearSpec) :=
  OpenClaim.holds_of_wide 9 Try.f9 rfl rfl rfl rfl rfl rfl rfl ⟨rfl, rfl, rfl, rfl, rfl⟩ rfl rfl rfl rfl rfl (by kernel_rfl) Try.func9 (by kernel_rfl)
    (of_decide_eq_true (by kernel_rfl)) (by unfold Func.isWrapper; first | (rw [if_pos (by decide +kernel)]; kernel_rfl) | (rw [if_neg (by decide +kernel)]; exact ⟨rfl, rfl⟩))
    (fun os started H enc _ => lifted os started H enc)

end Near
/-- THE STATEMENT -/
theorem near_proved : Rows.NearSaid := Near.over
end Go.Proofs.Ythfjiipopplokaa
