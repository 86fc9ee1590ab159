/-
  'tutorlaw.Afters' is true for every configuration, every text and every number of steps: After answers as the document does (P9, P10). No condition.
-/
import Derived.Test.YtoihkljlekknkaaGreatRows
import Derived.WalkKit
import Derived.ProofKit
import Derived.OpenShut
import Derived.ShutString
import Derived.Carry
import Derived.Test.YtoihkljlekknkaaGreatAp35
import Derived.Test.YtoihkljlekknkaaGreatAs2
import Derived.Test.YtoihkljlekknkaaGreatCfg2
import Derived.Test.YtoihkljlekknkaaGreatCk5
namespace Go.Proofs.YtoihkljlekknkaaGreat
namespace Afters
open Go.ChangeShapes Go.WideShapes Go.ChangeAt Go.RowKit
open Go.ChangeMaps (open_string shut_string)
set_option linter.unusedSimpArgs false
set_option linter.unusedVariables false

theorem own : ownKnob Tryz.prog.godebug = none := by kernel_rfl
/-- a block that a call lays: it is written whole -/
theorem new_row (w : World) (Z Y : Array Value) (t : TypeId) : ∃ V, (w.alloc (.cells Z t)).setRow w.heap.size Y = V ∧ V.heap[w.heap.size]? = some (.cells Y t (0, 0)) ∧ Below w.heap.size w V ∧ w.heap.size < V.heap.size :=
 ⟨_, rfl, setRow_heap _ _ _ _ _ _ (heap_alloc_new w _), Below.setRow ((Below.refl _ _).alloc (Nat.le_refl _) _) (Nat.le_refl _) _, by simp [World.setRow]⟩
set_option maxHeartbeats 4000000 in
set_option maxRecDepth 100000 in
theorem walk (c : Cf) (hc : c.ok) (s : ByteArray) (hs : s.size ≤ maxLen) (a2 : Int) (w : World) :
 Calls Tryz.prog 3 #[.agg (rcs c), .string s, .int .i64 a2] w fun e w' => e = .returned (.bool true) ∧ Below w.heap.size w w' := by
 obtain ⟨X, hX⟩ : ∃ X, X = rcs c := ⟨_, rfl⟩
 rw [← hX]
 obtain ⟨W, hW, b0, bel, hws⟩ := one_block w X 24
 have B0 : Hid _ := b0
 have BE : Hid (Below w.heap.size w W) := bel
 have HW : Hid _ := hW
 have X1 : Hid ((Tryz.prog.info? 24).map (·.size) = some X.size) := by show _ = _; rw [hX]; exact infoC c
 have WS : Hid (w.heap.size ≤ W.heap.size) := by show _ ≤ _; omega
 obtain ⟨Y, hY⟩ : ∃ Y, Y = rcs (cl c) := ⟨_, rfl⟩
 have Y1 : Hid ((Tryz.prog.info? 24).map (·.size) = some Y.size) := by show _ = _; rw [hY]; exact infoC _
 have YZ : Hid (zcs.size = Y.size ∧ Y.size = 20 ∧ Y.all (·.oneCell') = true) := by show _ ∧ _ ∧ _; rw [hY]; exact ⟨rfl, rfl, rcs_one _⟩
 have CL : Hid (∀ w, Calls Tryz.prog 4 #[.agg (rcs c)] w fun e w' => e = .returned (.agg (rcs (cl c))) ∧ Below w.heap.size w w') := fun w => clean_any c w hc
 rw [← hX, ← hY] at CL
 have CF : Hid (∀ w, Calls Tryz.prog 6 #[.agg (rcs (cl c))] w fun e w' => e = .returned (.agg (pcs (cl c))) ∧ Below w.heap.size w w') := fun w => conf_any (cl c) w (cl_ok2 c)
 have AF : Hid (∀ w, Calls Tryz.prog 5 #[.agg (pcs (cl c)), .string s, .int .i64 a2] w fun e w' => e = .returned (.tuple #[.string (AFT (cl c) s a2), .int .i64 (CHK (cl c) (s.size : Int))]) ∧ Below w.heap.size w w') := fun w => after_any (cl c) s a2 w (cl_ok2 c) hs
 have RA : Hid (∀ w, Calls Tryz.prog 7 #[.agg (rcs (cl c)), .string s, .int .i64 a2] w fun e w' => e = .returned (.tuple #[.string (AFT (cl c) s a2), .int .i64 (CHK (cl c) (s.size : Int))]) ∧ Below w.heap.size w w') := fun w => by
  refine rafter_any (cl c) s a2 w (fun hck => ?_) (cl_ok2 c) hs
  obtain ⟨eL, em, wb, one, -⟩ := sizes_of hck
  exact mean_any (cl c) s (rslopes_any (cl c) (mOf (cl c)) eL em wb one) (cl_ok2 c) hs hck
 rw [← hY] at CF RA
 obtain ⟨Pv, hPv⟩ : ∃ P, P = pcs (cl c) := ⟨_, rfl⟩
 rw [← hPv] at CF AF
 obtain ⟨R, hR⟩ : ∃ R, R = CHK (cl c) (s.size : Int) := ⟨_, rfl⟩
 obtain ⟨T, hT⟩ : ∃ T, T = AFT (cl c) s a2 := ⟨_, rfl⟩
 rw [← hR, ← hT] at AF RA
 clear b0 bel hW hws hX hY hPv hR hT hc
 go_enter Tryz.func3, Tryz.ntmps3
 go_upto_region 1 with fail
 rw [HW.out]
 go_upto_region 2 with (first
  | (go_at_call 4; refine (CL.out _).mono ?_; rintro e w1 ⟨rfl, hb⟩; have HB1 : Hid _ := hb; clear hb)
  | (refine wpList_load_row rfl 24 _ rfl w.heap.size rfl 24 X (0, 0) _ B0.out Tryz.underlying24 rfl X1.out ?_)
  | (refine wpList_store_row rfl 24 _ _ rfl w1.heap.size Y rfl rfl 24 zcs (heap_alloc_new w1 _) Y1.out YZ.out.1 YZ.out.2.2 ?_))
 obtain ⟨V, hV, v0, vb, vs⟩ := new_row w1 zcs Y 24
 unfold zcs at hV
 rw [hV]
 have V0 : Hid _ := v0
 have VB : Hid (Below w.heap.size w V) := (BE.out.trans (HB1.out.mono WS.out)).trans (vb.mono (Nat.le_trans WS.out HB1.out.size))
 clear hV v0 vb B0 X1 CL
 go_upto_region 3 with (first
  | (go_at_call 6; refine (CF.out _).mono ?_; rintro e w2 ⟨rfl, hb⟩; have HB2 : Hid _ := hb; clear hb)
  | (go_at_call 5; refine (AF.out _).mono ?_; rintro e w3 ⟨rfl, hb⟩; have HB3 : Hid _ := hb; clear hb)
  | (refine wpList_load_row rfl 24 _ rfl w1.heap.size rfl 24 Y (0, 0) _ V0.out Tryz.underlying24 rfl Y1.out ?_))
 have V3 : Hid (w3.heap[w1.heap.size]? = some (.cells Y 24 (0, 0))) := by
  show _ = _
  rw [HB3.out.block _ (Nat.lt_of_lt_of_le vs HB2.out.size), HB2.out.block _ vs]; exact V0.out
 have B3 : Hid (Below w.heap.size w w3) := (VB.out.trans (HB2.out.mono VB.out.size)).trans (HB3.out.mono (Nat.le_trans VB.out.size HB2.out.size))
 clear V0 VB HB2 HB3 HB1 vs
 go_wp2_with (first
  | (go_at_call 7; refine (RA.out _).mono ?_; rintro e w4 ⟨rfl, hb⟩; have HB4 : Hid _ := hb; clear hb)
  | (go_at_call 8; refine (num_any _ _).mono ?_; rintro e w' ⟨rfl, hw'⟩; subst w')
  | (refine wpList_load_row rfl 24 _ rfl w1.heap.size rfl 24 Y (0, 0) _ V3.out Tryz.underlying24 rfl Y1.out ?_))
 go_ret
 exact ⟨ret_bool (by simp), B3.out.trans (HB4.out.mono B3.out.size)⟩
/-! ### THE ROW's STEP: WRITTEN OUT: LEAVE IT -/
set_option maxRecDepth 100000 in
theorem lifted (os : Os) (started : os.Started) (H : Type) (enc : TypeId × Value → H) :
 ReturnsInHanded {} Tryz.checked os 3 .any (Rows.aftersSpec.pre6 enc Tryz.prog Tryz.f3 Rows.aftersRow.domain false) (Rows.aftersSpec.post enc Tryz.prog Tryz.f3 false true false false) := by
 refine returnsInHanded_of_change (C := Tryz.checked) own started (by kernel_rfl) Tryz.func3
  (ChangeSpec.witness6 (enc := enc) (C := Tryz.checked) false ⟨#[], #[.agg #[.int .i64 0, .int .i64 0, .int .i64 0, .int .i64 0, .int .i64 0, .int .i64 0, .int .i64 0, .int .i64 0, .int .i64 0, .int .i64 0, .int .i64 0, .int .i64 0, .int .i64 0, .int .i64 0, .int .i64 0, .int .i64 0, .int .i64 0, .int .i64 0, .int .i64 0, .int .i64 0], .string ⟨#[]⟩, .int .i64 0], []⟩ 8 (by kernel_rfl) (by kernel_rfl) (by kernel_rfl) (by kernel_rfl)) ?_
 intro W base args ds gs before hval0 hW hcnd _
 have hval : ∀ (j : Nat) t v, Tryz.f3.params[j]? = some t → args[j]? = some v → Value.okWide Tryz.prog W .any base t v := hval0
 have hW' := hW
 obtain ⟨p, q, hA0, hV, rfl, hfz, hnd⟩ := hW
 have hA : DataW.TrodAll enc Tryz.prog W 0 (fun _ => true) true Tryz.f3.params.toList args.toList ds p := hA0
 rw [Tryz.params3] at hA hval
 obtain ⟨v0, vs0, d0, ds0, p0, q0, hargs, rfl, rfl, h0, r0⟩ := trodAll_cons hA
 obtain ⟨v1, vs1, d1, ds1, p1, q1, rfl, rfl, rfl, h1, r1⟩ := trodAll_cons r0
 obtain ⟨v2, vs2, d2, ds2, p2, q2, rfl, rfl, rfl, h2, r2⟩ := trodAll_cons r1
 obtain ⟨rfl, rfl, rfl⟩ := trodAll_nil r2
 obtain rfl : args = #[v0, v1, v2] := by cases args; simp_all
 obtain ⟨rfl, rfl⟩ := trodVars_none hV
 obtain ⟨a2, rfl, rfl, rfl, k2⟩ := open_int Tryz.underlying3 (hval 2 3 v2 rfl rfl) h2
 obtain ⟨s, rfl, rfl, rfl, hs⟩ := open_string Tryz.underlying9 (hval 1 9 v1 rfl rfl) h1
 obtain ⟨c, rfl, hc⟩ := cfg_open (hval 0 24 v0 rfl rfl) h0
 clear hA0 hval0
 simp only [List.append_nil] at hW'
 have hlt : ∀ x ∈ p0, x.block < W.heap.size := fun x hx => by simpa using hW'.lt x (by simpa using hx)
 refine (walk c hc s hs a2 W).mono fun e W' ⟨he, bel⟩ => ?_
 subst he
 exact ⟨_, rfl, _, _, _, [], p0, [], hW', (trodAll_cons_mk (shut_bool Tryz.underlying4 _) trodAll_mk0), (by have := trodAll_cons_mk (Below.trod Tryz.laidOut (by kernel_rfl) (of_decide_eq_true (by kernel_rfl)) h0 bel hlt) (trodAll_cons_mk (shut_string Tryz.underlying9 hs) (trodAll_cons_mk (shut_int Tryz.underlying3 k2) trodAll_mk0)); simp only [List.append_nil] at this; exact this), rfl, bel.frame _, fun h => by cases h⟩

theorem over : Rows.aftersRow.holds Tryz.pinned (OpenSpec.ofChange Rows.aftersSpec) :=
 OpenClaim.holds_of_wide 3 Tryz.f3 rfl rfl rfl rfl rfl rfl rfl ⟨rfl, rfl, rfl, rfl, rfl⟩ rfl rfl rfl rfl rfl (by kernel_rfl) Tryz.func3 (by kernel_rfl)
  (of_decide_eq_true (by kernel_rfl)) (by unfold Func.isWrapper; first | (rw [if_pos (by decide +kernel)]; kernel_rfl) | (rw [if_neg (by decide +kernel)]; exact ⟨rfl, rfl⟩))
  (fun os started H enc _ => lifted os started H enc)

end Afters
/-- THE STATEMENT -/
theorem afters_proved : Rows.AftersSaid := Afters.over
end Go.Proofs.YtoihkljlekknkaaGreat
