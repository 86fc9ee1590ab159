/-
  'tutorlaw.Checks' is true for every configuration and every text: Check answers as the document does (P8). No condition.
-/
import Derived.Test.YtkncmjnakjkndaaRows
import Derived.WalkKit
import Derived.ProofKit
import Derived.OpenShut
import Derived.ShutString
import Derived.Carry
import Derived.Deep.RegionHeld
import Derived.Deep.MidRow
import Derived.Test.YtkncmjnakjkndaaCk5
import Derived.Test.YtkncmjnakjkndaaCfg2
namespace Go.Proofs.Ytkncmjnakjkndaa
namespace Checks
open Go.ChangeShapes Go.WideShapes Go.ChangeAt Go.RowKit
open Go.ChangeMaps (open_string shut_string)
set_option linter.unusedSimpArgs false
set_option linter.unusedVariables false

theorem own : ownKnob Try.prog.godebug = none := by kernel_rfl
/-- a block that a call lays: it is written whole -/
theorem new_row (w : World) (Z Y : Array Value) (t : TypeId) : ∃ V, (w.alloc (.cells Z t)).setRow w.heap.size Y = V ∧ V.heap[w.heap.size]? = some (.cells Y t (0, 0)) ∧ Below w.heap.size w V ∧ w.heap.size < V.heap.size :=
  ⟨_, rfl, setRow_heap _ _ _ _ _ _ (heap_alloc_new w _), Below.setRow ((Below.refl _ _).alloc (Nat.le_refl _) _) (Nat.le_refl _) _, by simp [World.setRow]⟩
theorem rng {w : World} {g : Nat} {Y : Array Value} {t : TypeId} (h : w.heap[g]? = some (.cells Y t (0, 0))) : w.rangeAt g 0 Y.toList := fun j v hv => by
  rw [Nat.zero_add, cell_of_row w g j Y t (0, 0) h]; simpa using hv
/-- what stands throughout the last line: the configuration's block, and what came in -/
def SS (w : World) (g : Nat) (Y : List Value) (a : World) : Prop := a.rangeAt g 0 Y ∧ g < a.heap.size ∧ Below w.heap.size w a
theorem keepS {w a b : World} {g : Nat} {Y : List Value} (h : SS w g Y a) (hb : Below a.heap.size a b) : SS w g Y b :=
  ⟨fun j v hv => (hb.cell (p := ⟨g, 0 + j, none⟩) h.2.1).trans (h.1 j v hv), Nat.lt_of_lt_of_le h.2.1 hb.size, h.2.2.trans (hb.mono h.2.2.size)⟩
set_option maxHeartbeats 4000000 in
set_option maxRecDepth 100000 in
theorem walk (c : Cf) (hc : c.ok) (s : ByteArray) (hs : s.size ≤ maxLen) (w : World) :
    Calls Try.prog 11 #[.agg (rcs c), .string s] w fun e w' => e = .returned (.bool true) ∧ Below w.heap.size w w' := by
  obtain ⟨X, hX⟩ : ∃ X, X = rcs c := ⟨_, rfl⟩
  rw [← hX]
  obtain ⟨W, hW, b0, bel, hws⟩ := one_block w X 53
  have B0 : Hid _ := b0
  have BE : Hid (Below w.heap.size w W) := bel
  have HW : Hid _ := hW
  have HX : Hid _ := hX
  have X1 : Hid ((Try.prog.info? 53).map (·.size) = some X.size) := by show _ = _; rw [hX]; kernel_rfl
  have WS : Hid (w.heap.size ≤ W.heap.size) := by show _ ≤ _; omega
  obtain ⟨Y, hY⟩ : ∃ Y, Y = rcs (cl c) := ⟨_, rfl⟩
  have HY : Hid _ := hY
  have Y1 : Hid ((Try.prog.info? 53).map (·.size) = some Y.size) := by show _ = _; rw [hY]; kernel_rfl
  have YZ : Hid (zcs.size = Y.size ∧ Y.size = 20 ∧ Y.all (·.oneCell') = true) := by show _ ∧ _ ∧ _; rw [hY]; exact ⟨rfl, rfl, rcs_one _⟩
  have CL : Hid (∀ w, Calls Try.prog 50 #[.agg (rcs c)] w fun e w' => e = .returned (.agg (rcs (cl c))) ∧ Below w.heap.size w w') := fun w => clean_any c w hc
  rw [← hX, ← hY] at CL
  have CF : Hid (∀ w, Calls Try.prog 52 #[.agg (rcs (cl c))] w fun e w' => e = .returned (.agg (pcs (cl c))) ∧ Below w.heap.size w w') := fun w => conf_any (cl c) w (cl_ok2 c)
  have CH : Hid (∀ w, Calls Try.prog 51 #[.agg (pcs (cl c)), .string s] w fun e w' => e = .returned (.int .i64 (CHK (cl c) s.size)) ∧ Below w.heap.size w w') := fun w => check_any (cl c) s w hs
  have RC : Hid (∀ w, Calls Try.prog 54 #[.agg (rcs (cl c)), .string s] w fun e w' => e = .returned (.int .i64 (CHK (cl c) s.size)) ∧ Below w.heap.size w w') := fun w => rcheck_any (cl c) s w hs
  rw [← hY] at CF RC
  obtain ⟨Pv, hPv⟩ : ∃ P, P = pcs (cl c) := ⟨_, rfl⟩
  rw [← hPv] at CF CH
  obtain ⟨R, hR⟩ : ∃ R, R = CHK (cl c) s.size := ⟨_, rfl⟩
  rw [← hR] at CH RC
  clear b0 bel hW hws hX hY hPv hR hc
  go_enter Try.func11, Try.ntmps11
  go_upto_region 1 with fail
  rw [HW.out]
  go_upto_region 2 with (first
    | (go_at_call 50; refine (CL.out _).mono ?_; rintro e w1 ⟨rfl, hb⟩; have HB1 : Hid _ := hb; clear hb)
    | (refine wpList_load_row rfl 53 _ rfl w.heap.size rfl 53 X (0, 0) _ B0.out Try.underlying53 rfl X1.out ?_)
    | (refine wpList_store_row rfl 53 _ _ rfl w1.heap.size Y rfl rfl 53 zcs (heap_alloc_new w1 _) Y1.out YZ.out.1 YZ.out.2.2 ?_))
  obtain ⟨V, hV, v0, vb, vs⟩ := new_row w1 zcs Y 53
  unfold zcs at hV
  rw [hV]
  have V0 : Hid _ := v0
  have VB : Hid (Below w.heap.size w V) := (BE.out.trans (HB1.out.mono WS.out)).trans (vb.mono (Nat.le_trans WS.out HB1.out.size))
  clear hV v0 vb B0 X1 CL
  go_upto_region 3 with (first
    | (go_at_call 52; refine (CF.out _).mono ?_; rintro e w2 ⟨rfl, hb⟩; have HB2 : Hid _ := hb; clear hb)
    | (go_at_call 51; refine (CH.out _).mono ?_; rintro e w3 ⟨rfl, hb⟩; have HB3 : Hid _ := hb; clear hb)
    | (refine wpList_load_row rfl 53 _ rfl w1.heap.size rfl 53 Y (0, 0) _ V0.out Try.underlying53 rfl Y1.out ?_))
  have v3 : w3.heap[w1.heap.size]? = some (.cells Y 53 (0, 0)) := by
    rw [HB3.out.block _ (Nat.lt_of_lt_of_le vs HB2.out.size), HB2.out.block _ vs]; exact V0.out
  have B3 : Hid (Below w.heap.size w w3) := (VB.out.trans (HB2.out.mono VB.out.size)).trans (HB3.out.mono (Nat.le_trans VB.out.size HB2.out.size))
  have g3 : w1.heap.size < w3.heap.size := Nat.lt_of_lt_of_le vs (Nat.le_trans HB2.out.size HB3.out.size)
  have S3 : SS w w1.heap.size Y.toList w3.drew := ⟨rng v3, g3, B3.out.drew⟩
  have Y2 : Hid ((Try.prog.info? 53).map (·.size) = some Y.toList.length) := by show _ = _; rw [Array.length_toList, YZ.out.2.1]; kernel_rfl
  clear v3 V0 VB HB2 HB3 HB1 vs
  refine wp_region_held_drew (S := SS w w1.heap.size Y.toList) (by kernel_rfl) S3 (fun hS => ?_)
  refine wpAnyH_take (i := 2) (oi := { dst := some 15, op := Op.load 53 (Operand.tmp 5), type := 53, pos := "train.go:36", after := #[], guard := none }) (v := .agg Y.toList.toArray) rfl (by kernel_rfl) (by kernel_rfl) (by kernel_rfl) (fun _ _ _ h => h) (yieldsIf_load_mid (by rfl) 53 _ rfl w1.heap.size 0 rfl Y.toList _ (fun w h => h.1) Try.underlying53 rfl Y2.out) hS ?_
  rw [Array.toArray_toList]
  simp only [Act.put, List.setIfInBounds_toArray, List.set_cons_zero, List.set_cons_succ]
  refine wpAnyH_take (i := 3) (oi := { dst := some 16, op := Op.move (Operand.tmp 1), type := 9, pos := "train.go:36", after := #[], guard := none }) (v := .string s) rfl (by kernel_rfl) (by kernel_rfl) (by kernel_rfl) (fun _ _ _ h => h) (Or.inl ⟨by rfl, fun w h => by go_simp⟩) hS ?_
  simp only [Act.put, List.setIfInBounds_toArray, List.set_cons_zero, List.set_cons_succ]
  refine wpAnyH_take (i := 0) (oi := { dst := some 13, op := Op.move (Operand.tmp 6), type := 55, pos := "train.go:36", after := #[], guard := none }) (v := .int .i64 R) rfl (by kernel_rfl) (by kernel_rfl) (by kernel_rfl) (fun _ _ _ h => h) (Or.inl ⟨by rfl, fun w h => by go_simp⟩) hS ?_
  simp only [Act.put, List.setIfInBounds_toArray, List.set_cons_zero, List.set_cons_succ]
  refine wpAnyH_ready (rs := [1]) (by kernel_rfl) (by simp) ?_
  refine AllReadyH.cons (o := { dst := some 14, op := Op.call { callee := Callee.value (Operand.func 53), args := #[Operand.tmp 13], argTypes := #[55] }, type := 3, pos := "train.go:36", after := #[{ on := 0, ground := Ground.data }], guard := none }) rfl (fun K hK => ?_) AllReadyH.nil
  go_simp
  refine (num_any _ _).mono ?_
  rintro e wq ⟨rfl, hwq⟩
  subst wq
  go_wp2_with fail
  refine hK.out _ _ hS (fun hS => ?_)
  try simp only [Act.put, List.setIfInBounds_toArray, List.set_cons_zero, List.set_cons_succ]
  refine wpAnyH_ready (rs := [4]) (by kernel_rfl) (by simp) ?_
  refine AllReadyH.cons (o := { dst := some 17, op := Op.call { callee := Callee.value (Operand.func 54), args := #[Operand.tmp 15, Operand.tmp 16], argTypes := #[53, 9] }, type := 3, pos := "train.go:36", after := #[{ on := 2, ground := Ground.data }, { on := 3, ground := Ground.data }, { on := 1, ground := Ground.chain }], guard := none }) rfl (fun K hK => ?_) AllReadyH.nil
  go_simp
  refine (RC.out _).mono ?_
  rintro e w4 ⟨rfl, hb⟩
  have S4 := keepS hS hb
  clear hb
  go_wp2_with fail
  refine hK.out _ _ S4 (fun hS => ?_)
  try simp only [Act.put, List.setIfInBounds_toArray, List.set_cons_zero, List.set_cons_succ]
  refine wpAnyH_take (i := 5) (oi := { dst := some 18, op := Op.binOp BinOp.eql 3 (Operand.tmp 14) (Operand.tmp 17) 3, type := 4, pos := "train.go:36", after := #[{ on := 1, ground := Ground.data }, { on := 4, ground := Ground.data }], guard := none }) (v := .bool true) rfl (by kernel_rfl) (by kernel_rfl) (by kernel_rfl) (fun _ _ _ h => h) (Or.inl ⟨by rfl, fun w h => by go_simp⟩) hS ?_
  simp only [Act.put, List.setIfInBounds_toArray, List.set_cons_zero, List.set_cons_succ]
  refine wpAnyH_ready (rs := [6]) (by kernel_rfl) (by simp) ?_
  refine AllReadyH.cons (o := { dst := some 4, op := Op.assign (Operand.tmp 18), type := 4, pos := "train.go:36", after := #[{ on := 5, ground := Ground.data }, { on := 4, ground := Ground.chain }, { on := 0, ground := Ground.phase }, { on := 1, ground := Ground.phase }, { on := 2, ground := Ground.phase }, { on := 3, ground := Ground.phase }, { on := 4, ground := Ground.phase }, { on := 5, ground := Ground.phase }], guard := none }) rfl (fun K hK => ?_) AllReadyH.nil
  go_simp
  refine hK.out _ _ hS (fun hS => ?_)
  try simp only [Act.put, List.setIfInBounds_toArray, List.set_cons_zero, List.set_cons_succ]
  refine wpAnyH_done (by kernel_rfl) ?_ _
  go_wp2
  go_ret
  exact ⟨rfl, S4.2.2⟩
/-! ### THE ROW's STEP: WRITTEN OUT: LEAVE IT -/
set_option maxRecDepth 100000 in
theorem lifted (os : Os) (started : os.Started) (H : Type) (enc : TypeId × Value → H) :
    ReturnsInHanded {} Try.checked os 11 .any (Rows.checksSpec.pre6 enc Try.prog Try.f11 Rows.checksRow.domain false) (Rows.checksSpec.post enc Try.prog Try.f11 false true false false) := by
  refine returnsInHanded_of_change (C := Try.checked) own started (by kernel_rfl) Try.func11
    (ChangeSpec.witness6 (enc := enc) (C := Try.checked) false ⟨#[], #[.agg #[.int .i64 0, .int .i64 0, .int .i64 0, .int .i64 0, .int .i64 0, .int .i64 0, .int .i64 0, .int .i64 0, .int .i64 0, .int .i64 0, .int .i64 0, .int .i64 0, .int .i64 0, .int .i64 0, .int .i64 0, .int .i64 0, .int .i64 0, .int .i64 0, .int .i64 0, .int .i64 0], .string ⟨#[]⟩], []⟩ 8 (by kernel_rfl) (by kernel_rfl) (by kernel_rfl) (by kernel_rfl)) ?_
  intro W base args ds gs before hval0 hW hcnd _
  have hval : ∀ (j : Nat) t v, Try.f11.params[j]? = some t → args[j]? = some v → Value.okWide Try.prog W .any base t v := hval0
  have hW' := hW
  obtain ⟨p, q, hA0, hV, rfl, hfz, hnd⟩ := hW
  have hA : DataW.TrodAll enc Try.prog W 0 (fun _ => true) true Try.f11.params.toList args.toList ds p := hA0
  rw [Try.params11] at hA hval
  obtain ⟨v0, vs0, d0, ds0, p0, q0, hargs, rfl, rfl, h0, r0⟩ := trodAll_cons hA
  obtain ⟨v1, vs1, d1, ds1, p1, q1, rfl, rfl, rfl, h1, r1⟩ := trodAll_cons r0
  obtain ⟨rfl, rfl, rfl⟩ := trodAll_nil r1
  obtain rfl : args = #[v0, v1] := by cases args; simp_all
  obtain ⟨rfl, rfl⟩ := trodVars_none hV
  obtain ⟨s, rfl, rfl, rfl, hs⟩ := open_string Try.underlying9 (hval 1 9 v1 rfl rfl) h1
  obtain ⟨c, rfl, hc⟩ := cfg_open (hval 0 53 v0 rfl rfl) h0
  clear hA0 hval0
  simp only [List.append_nil] at hW'
  have hlt : ∀ x ∈ p0, x.block < W.heap.size := fun x hx => by simpa using hW'.lt x (by simpa using hx)
  refine (walk c hc s hs W).mono fun e W' ⟨he, bel⟩ => ?_
  subst he
  exact ⟨_, rfl, _, _, _, [], p0, [], hW', (trodAll_cons_mk (shut_bool Try.underlying4 _) trodAll_mk0), (by have := trodAll_cons_mk (Below.trod Try.laidOut (by kernel_rfl) (of_decide_eq_true (by kernel_rfl)) h0 bel hlt) (trodAll_cons_mk (shut_string Try.underlying9 hs) trodAll_mk0); simp only [List.append_nil] at this; exact this), rfl, bel.frame _, fun h => by cases h⟩

theorem over : Rows.checksRow.holds Try.pinned (OpenSpec.ofChange Rows.checksSpec) :=
  OpenClaim.holds_of_wide 11 Try.f11 rfl rfl rfl rfl rfl rfl rfl ⟨rfl, rfl, rfl, rfl, rfl⟩ rfl rfl rfl rfl rfl (by kernel_rfl) Try.func11 (by kernel_rfl)
    (of_decide_eq_true (by kernel_rfl)) (by unfold Func.isWrapper; first | (rw [if_pos (by decide +kernel)]; kernel_rfl) | (rw [if_neg (by decide +kernel)]; exact ⟨rfl, rfl⟩))
    (fun os started H enc _ => lifted os started H enc)

end Checks
/-- THE STATEMENT -/
theorem checks_proved : Rows.ChecksSaid := Checks.over
end Go.Proofs.Ytkncmjnakjkndaa
