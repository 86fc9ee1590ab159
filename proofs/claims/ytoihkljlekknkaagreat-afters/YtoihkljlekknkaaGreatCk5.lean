/-
  How many samples there are, and Check, by the document. Conditions: the text's length is an int.
-/
import Derived.Test.YtoihkljlekknkaaGreatCk4
namespace Go.Proofs.YtoihkljlekknkaaGreat
open Go.RowKit
open Go.Joins (block_setCell cell_of_block unfrozen_of_block)
set_option linter.unusedVariables false
set_option linter.unusedSimpArgs false
set_option maxHeartbeats 400000 in
theorem num_any (e : Int) (w : World) : Calls Tryz.prog 8 #[.int .i64 e] w fun x w' => x = .returned (.int .i64 e) ∧ w' = w := by
 go_enter Tryz.func8, Tryz.ntmps8
 go_wp2
 go_ret
 exact ⟨rfl, rfl⟩
set_option maxHeartbeats 2000000 in
set_option maxRecDepth 100000 in
theorem samples_any (c : Cf) (s : ByteArray) (w : World) (h : ALW c = true) (hs : s.size ≤ maxLen) :
 Calls Tryz.prog 35 #[.agg (rcs c), .string s] w fun e w' => e = .returned (.int .i64 (SMP c s.size)) ∧ Below w.heap.size w w' := by
 unfold maxLen at hs
 obtain ⟨s1, s2⟩ := SZ_bd h
 obtain ⟨h1, h2, h3⟩ := ALW_wide h
 have a := h3 0 (by omega)
 have b := h3 c.L.toNat (by omega)
 have e0 : wd c 0 = c.w0 := rfl
 rw [e0] at a
 obtain ⟨l, hl⟩ : ∃ l : Nat, c.L = l := ⟨c.L.toNat, by omega⟩
 obtain ⟨X, hX⟩ : ∃ X, X = rcs c := ⟨_, rfl⟩
 rw [← hX]
 obtain ⟨W, hW, b0, bel, hws⟩ := one_block w X 24
 have c0 : W.cell? ⟨w.heap.size, 0, none⟩ = some (.int .i64 l) := (cell_of_block b0 0).trans (by rw [hX, ← hl]; rfl)
 have c1 : W.cell? ⟨w.heap.size, 1, none⟩ = some (.int .i64 c.w0) := (cell_of_block b0 1).trans (by rw [hX]; rfl)
 obtain ⟨x, hx⟩ : ∃ x, x = wd c c.L.toNat := ⟨_, rfl⟩
 have cx : W.cell? ⟨w.heap.size, 1 + l, none⟩ = some (.int .i64 x) := (cell_of_block b0 (1 + l)).trans (by rw [hX, hx, show c.L.toNat = l by omega]; exact rcs_wide c l (by omega))
 rw [← hx] at b
 have ES : 4 * (c.w0 + x) = SZ c := by unfold SZ; rw [hx]
 have E : Hid (SMP c s.size = if (s.size : Int) / SZ c * SZ c = (s.size : Int) ∧ (s.size : Int) / SZ c ≤ 16 then (s.size : Int) / SZ c else 0) := rfl
 obtain ⟨z, hz⟩ : ∃ z, z = SZ c := ⟨_, rfl⟩
 rw [← hz] at s1 s2 E ES
 have BE : Hid (Below w.heap.size w W) := bel
 have HW : Hid _ := hW
 obtain ⟨y, hy⟩ : ∃ y, y = c.w0 := ⟨_, rfl⟩
 rw [← hy] at c1 a ES
 clear b0 bel hW hX hws h3 hx hy e0 hz h
 obtain ⟨q, hq⟩ : ∃ q, q = (s.size : Int) / z := ⟨_, rfl⟩
 rw [← hq] at E
 have q0 : 0 ≤ q := by rw [hq]; exact Int.ediv_nonneg (by omega) (by omega)
 have q1 : q ≤ (s.size : Int) := by rw [hq]; exact Int.ediv_le_self _ (by omega)
 obtain ⟨p, hp⟩ : ∃ p, p = q * z := ⟨_, rfl⟩
 rw [← hp] at E
 have p0 : 0 ≤ p := by rw [hp]; exact Int.mul_nonneg q0 (by omega)
 have p1 : p ≤ (s.size : Int) := by rw [hp, hq]; exact Int.ediv_mul_le _ (by omega)
 have T2 : (s.size : Int).tdiv z = q := by rw [hq]; exact Int.tdiv_eq_ediv_of_nonneg (by omega)
 have T3 := hq.symm
 have T4 := hp.symm
 have z0 : (z == 0) = false := by simp; omega
 have i0 : (0 : Int) ≤ (l : Int) := by omega
 have i1 : (l : Int) < 4 := by omega
 have z1 : IntKind.i64.wrap (y + x) = y + x := by rw [IntKind.wrap_i64]; omega
 have z2 : IntKind.i64.wrap (4 * (y + x)) = z := by rw [IntKind.wrap_i64]; omega
 clear hl hq hp
 go_enter Tryz.func35, Tryz.ntmps35
 go_upto_region 1 with fail
 rw [HW.out]
 go_quiet (fail)
 by_cases hpn : p = (s.size : Int)
 · by_cases hq16 : q ≤ 16
   · have R : Hid (SMP c s.size = q) := by show _ = _; rw [E.out, if_pos ⟨hpn, hq16⟩]
     have hpb : (p != (s.size : Int)) = false := by simp [hpn]
     clear E hpn
     go_wp2
     go_ret
     exact ⟨ret_int R.out.symm, BE.out.trans (Go.Joins.below_draws _ _ _)⟩
   · have R : Hid (SMP c s.size = 0) := by show _ = _; rw [E.out, if_neg (fun h => hq16 h.2)]
     have hpb : (p != (s.size : Int)) = false := by simp [hpn]
     clear E hpn
     go_wp2
     go_ret
     exact ⟨ret_int R.out.symm, BE.out.trans (Go.Joins.below_draws _ _ _)⟩
 · have R : Hid (SMP c s.size = 0) := by show _ = _; rw [E.out, if_neg (fun h => hpn h.1)]
   have hpb : (p == (s.size : Int)) = false := by simpa using hpn
   clear E
   go_wp2
   go_ret
   exact ⟨ret_int R.out.symm, BE.out.trans (Go.Joins.below_draws _ _ _)⟩
theorem load53 (W : World) (g : Nat) (X : Array Value) (hg : W.heap[g]? = some (.cells X 24 (0, 0))) (hX : X.size = 20) : (Instr.loadAt 24 (.pointer (some ⟨g, 0, none⟩))).run Tryz.prog W = .ok (.agg X) W := by
 have := run_loadVar_row (P := Tryz.prog) W g 24 24 X (0, 0) _ hg Tryz.underlying24 rfl (by rw [hX]; kernel_rfl)
 simp only [Instr.loadAt, Instr.sureAddr, Sem.run_bind, Sem.run_pure, Result.andThen_ok, this]
set_option maxHeartbeats 2000000 in
set_option maxRecDepth 100000 in
theorem rcheck_any (c : Cf) (s : ByteArray) (w : World) (hs : s.size ≤ maxLen) :
 Calls Tryz.prog 16 #[.agg (rcs c), .string s] w fun e w' => e = .returned (.int .i64 (CHK c s.size)) ∧ Below w.heap.size w w' := by
 obtain ⟨X, hX⟩ : ∃ X, X = rcs c := ⟨_, rfl⟩
 rw [← hX]
 obtain ⟨W, hW, b0, bel, hws⟩ := one_block w X 24
 have B0 : Hid _ := b0
 have BE : Hid (Below w.heap.size w W) := bel
 have HW : Hid _ := hW
 have HX : Hid _ := hX
 have X1 : Hid ((Tryz.prog.info? 24).map (·.size) = some X.size) := by show _ = _; rw [hX]; kernel_rfl
 have WS : Hid (w.heap.size ≤ W.heap.size) := by show _ ≤ _; omega
 have WT : Hid (w.heap.size < W.heap.size) := by show _ < _; omega
 clear b0 bel hW hX hws
 cases h1 : ALW c
 · have R : Hid (CHK c s.size = 1) := by show _ = _; unfold CHK; rw [if_pos h1]
   go_enter Tryz.func16, Tryz.ntmps16
   go_upto_region 1 with fail
   rw [HW.out]
   go_wp2_with (first
    | (go_at_call 34; rw [HX.out]; refine (allowed_any c _).mono ?_; rintro e w1 ⟨rfl, hb⟩; rw [h1]; have HB : Hid _ := hb; clear hb)
    | (refine wpList_load_row rfl 24 _ rfl w.heap.size rfl 24 X (0, 0) _ B0.out Tryz.underlying24 rfl X1.out ?_))
   go_ret
   exact ⟨ret_int R.out.symm, BE.out.trans (HB.out.mono WS.out)⟩
 · have SS := SMP_zero h1 s.size (by omega)
   have RR : Hid (CHK c s.size = if DATA c s.size = false then 2 else 0) := by show _ = _; unfold CHK; rw [if_neg (by rw [h1]; simp)]
   cases h2 : DATA c s.size
   · have R : Hid (CHK c s.size = 2) := by show _ = _; rw [RR.out, if_pos h2]
     rw [h2] at SS
     have SM : ∀ w, Calls Tryz.prog 35 #[.agg (rcs c), .string s] w fun e w' => e = .returned (.int .i64 (SMP c s.size)) ∧ Below w.heap.size w w' := fun w => samples_any c s w h1 hs
     obtain ⟨m, hm⟩ : ∃ m, m = SMP c s.size := ⟨_, rfl⟩
     rw [← hm] at SS SM
     have HSM : Hid _ := SM
     simp only [Bool.not_false] at SS
     clear hm RR SM
     go_enter Tryz.func16, Tryz.ntmps16
     go_upto_region 1 with fail
     rw [HW.out]
     go_wp2_with (first
      | (go_at_call 34; rw [HX.out]; refine (allowed_any c _).mono ?_; rintro e w1 ⟨rfl, hb⟩; rw [h1]; have HB : Hid _ := hb; have B1 : Hid (w1.heap[w.heap.size]? = some (.cells X 24 (0, 0))) := (hb.block _ WT.out).trans B0.out; have s1 := hb.size; clear hb)
      | (go_at_call 35; rw [HX.out]; refine (HSM.out _).mono ?_; rintro e w2 ⟨rfl, hb⟩; have HB2 : Hid _ := hb; clear hb)
      | (refine wpList_load_row rfl 24 _ rfl w.heap.size rfl 24 X (0, 0) _ B1.out Tryz.underlying24 rfl X1.out ?_)
      | (refine wpList_load_row rfl 24 _ rfl w.heap.size rfl 24 X (0, 0) _ B0.out Tryz.underlying24 rfl X1.out ?_))
     go_ret
     exact ⟨ret_int R.out.symm, (BE.out.trans (HB.out.mono WS.out)).trans (HB2.out.mono (Nat.le_trans WS.out s1))⟩
   · have R : Hid (CHK c s.size = 0) := by show _ = _; rw [RR.out, if_neg (by rw [h2]; simp)]
     rw [h2] at SS
     have SM : ∀ w, Calls Tryz.prog 35 #[.agg (rcs c), .string s] w fun e w' => e = .returned (.int .i64 (SMP c s.size)) ∧ Below w.heap.size w w' := fun w => samples_any c s w h1 hs
     obtain ⟨m, hm⟩ : ∃ m, m = SMP c s.size := ⟨_, rfl⟩
     rw [← hm] at SS SM
     have HSM : Hid _ := SM
     simp only [Bool.not_true] at SS
     clear hm RR SM
     go_enter Tryz.func16, Tryz.ntmps16
     go_upto_region 1 with fail
     rw [HW.out]
     go_wp2_with (first
      | (go_at_call 34; rw [HX.out]; refine (allowed_any c _).mono ?_; rintro e w1 ⟨rfl, hb⟩; rw [h1]; have HB : Hid _ := hb; have B1 : Hid (w1.heap[w.heap.size]? = some (.cells X 24 (0, 0))) := (hb.block _ WT.out).trans B0.out; have s1 := hb.size; clear hb)
      | (go_at_call 35; rw [HX.out]; refine (HSM.out _).mono ?_; rintro e w2 ⟨rfl, hb⟩; have HB2 : Hid _ := hb; clear hb)
      | (refine wpList_load_row rfl 24 _ rfl w.heap.size rfl 24 X (0, 0) _ B1.out Tryz.underlying24 rfl X1.out ?_)
      | (refine wpList_load_row rfl 24 _ rfl w.heap.size rfl 24 X (0, 0) _ B0.out Tryz.underlying24 rfl X1.out ?_))
     go_ret
     exact ⟨ret_int R.out.symm, (BE.out.trans (HB.out.mono WS.out)).trans (HB2.out.mono (Nat.le_trans WS.out s1))⟩
end Go.Proofs.YtoihkljlekknkaaGreat
