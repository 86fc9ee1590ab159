/-
  Check, of the program and of the document: one number. Conditions: the text's length is an int.
-/
import Derived.Test.YtoihkljlekknkaaGreatCk1
import Derived.Deep.QuietTactic
import Derived.BigQuiet
namespace Go.Proofs.YtoihkljlekknkaaGreat
open Go.RowKit
open Go.Joins (block_setCell cell_of_block unfrozen_of_block)
set_option linter.unusedVariables false
set_option linter.unusedSimpArgs false
theorem inB_iff {n lo hi : Int} : inB n lo hi = true ↔ lo ≤ n ∧ n ≤ hi := by simp [inB]
/-- what a configuration's widths are -/
theorem ALW_wide {c : Cf} (h : ALW c = true) : 1 ≤ c.L ∧ c.L ≤ 3 ∧ ∀ k : Nat, (k : Int) ≤ c.L → 1 ≤ wd c k ∧ wd c k ≤ 4 := by
 unfold ALW at h
 simp only [Bool.and_eq_true] at h
 have h1 := inB_iff.1 h.1.1.1.1.1.1.1.1.1.1
 have h2 : WID c = true := h.1.1.1.1.1.1.1.1.1.2
 refine ⟨h1.1, h1.2, fun k hk => ?_⟩
 unfold WID at h2
 simp only [Bool.and_eq_true] at h2
 have hk4 : k < 4 := by omega
 have hw : okW c k = true := by
  rcases (show k = 0 ∨ k = 1 ∨ k = 2 ∨ k = 3 by omega) with rfl | rfl | rfl | rfl
  · exact h2.1.1.1
  · exact h2.1.1.2
  · exact h2.1.2
  · exact h2.2
 rw [okW_in hk] at hw
 exact inB_iff.1 hw
/-- how many bytes a sample has -/
def SZ (c : Cf) : Int := 4 * (c.w0 + wd c c.L.toNat)
theorem SZ_bd {c : Cf} (h : ALW c = true) : 8 ≤ SZ c ∧ SZ c ≤ 32 := by
 obtain ⟨h1, h2, h3⟩ := ALW_wide h
 have a := h3 0 (by omega)
 have b := h3 c.L.toNat (by omega)
 have e : wd c 0 = c.w0 := rfl
 unfold SZ
 omega
def DATA (c : Cf) (n : Int) : Bool := (n % SZ c == 0) && inB (n / SZ c) 1 16
def SMP (c : Cf) (n : Int) : Int := if n / SZ c * SZ c = n ∧ n / SZ c ≤ 16 then n / SZ c else 0
def CHK (c : Cf) (n : Int) : Int := if ALW c = false then 1 else if DATA c n = false then 2 else 0
theorem SMP_zero {c : Cf} (h : ALW c = true) (n : Int) (hn : 0 ≤ n) : (SMP c n == 0) = !DATA c n := by
 obtain ⟨s1, s2⟩ := SZ_bd h
 unfold SMP DATA
 generalize SZ c = z at *
 have q0 : 0 ≤ n / z := Int.ediv_nonneg hn (by omega)
 have e := Int.mul_ediv_add_emod n z
 rw [Int.mul_comm] at e
 have r0 := Int.emod_nonneg n (show z ≠ 0 by omega)
 generalize n / z = q at *
 generalize n % z = r at *
 generalize hp : q * z = p at *
 rw [Bool.eq_iff_iff]
 by_cases c1 : p = n ∧ q ≤ 16
 · rw [if_pos c1]
   have r1 : r = 0 := by omega
   subst r1
   by_cases q1 : q = 0
   · subst q1; simp [inB]
   · have : inB q 1 16 = true := inB_t (by omega)
     simp [this, q1]
 · rw [if_neg c1]
   by_cases r1 : r = 0
   · have : inB q 1 16 = false := inB_f (by omega)
     simp [this]
   · simp [r1]
theorem pcs_wide (c : Cf) (k : Nat) (hk : k < 4) : (pcs c)[1 + k]? = some (.int .i64 (wd c k)) := by
 rcases (show k = 0 ∨ k = 1 ∨ k = 2 ∨ k = 3 by omega) with rfl | rfl | rfl | rfl <;> rfl
set_option maxHeartbeats 2000000 in
set_option maxRecDepth 100000 in
theorem bytes_of_any (c : Cf) (w : World) (h : ALW c = true) :
 Calls Tryz.prog 23 #[.agg (pcs c)] w fun e w' => e = .returned (.int .i64 (SZ c)) ∧ Below w.heap.size w w' := by
 obtain ⟨h1, h2, h3⟩ := ALW_wide h
 have a := h3 0 (by omega)
 have b := h3 c.L.toNat (by omega)
 have e0 : wd c 0 = c.w0 := rfl
 rw [e0] at a
 obtain ⟨l, hl⟩ : ∃ l : Nat, c.L = l := ⟨c.L.toNat, by omega⟩
 obtain ⟨X, hX⟩ : ∃ X, X = pcs c := ⟨_, rfl⟩
 rw [← hX]
 obtain ⟨W, hW, b0, bel, hws⟩ := one_block w X 31
 have c0 : W.cell? ⟨w.heap.size, 0, none⟩ = some (.int .i64 l) := (cell_of_block b0 0).trans (by rw [hX, ← hl]; rfl)
 have c1 : W.cell? ⟨w.heap.size, 1, none⟩ = some (.int .i64 c.w0) := (cell_of_block b0 1).trans (by rw [hX]; rfl)
 obtain ⟨x, hx⟩ : ∃ x, x = wd c c.L.toNat := ⟨_, rfl⟩
 have cx : W.cell? ⟨w.heap.size, 1 + l, none⟩ = some (.int .i64 x) := (cell_of_block b0 (1 + l)).trans (by rw [hX, hx, show c.L.toNat = l by omega]; exact pcs_wide c l (by omega))
 rw [← hx] at b
 have E : Hid (SZ c = 4 * (c.w0 + x)) := by show _ = _; unfold SZ; rw [hx]
 have BE : Hid (Below w.heap.size w W) := bel
 have HW : Hid _ := hW
 obtain ⟨y, hy⟩ : ∃ y, y = c.w0 := ⟨_, rfl⟩
 rw [← hy] at c1 a E
 clear b0 bel hW hX hws h3 hx hy e0
 have i0 : (0 : Int) ≤ (l : Int) := by omega
 have i1 : (l : Int) < 4 := by omega
 have z1 : IntKind.i64.wrap (y + x) = y + x := by rw [IntKind.wrap_i64]; omega
 have z2 : IntKind.i64.wrap (4 * (y + x)) = 4 * (y + x) := by rw [IntKind.wrap_i64]; omega
 clear hl
 go_enter Tryz.func23, Tryz.ntmps23
 go_upto_region 1 with fail
 rw [HW.out]
 go_quiet (fail)
 go_wp2
 go_ret
 refine ⟨ret_int ?_, Go.Joins.below_draws _ _ _ |> BE.out.trans⟩
 rw [E.out]
set_option maxHeartbeats 2000000 in
set_option maxRecDepth 100000 in
theorem isData_any (c : Cf) (s : ByteArray) (w : World) (h : ALW c = true) (hs : s.size ≤ maxLen) :
 Calls Tryz.prog 21 #[.agg (pcs c), .string s] w fun e w' => e = .returned (.bool (DATA c s.size)) ∧ Below w.heap.size w w' := by
 unfold maxLen at hs
 obtain ⟨s1, s2⟩ := SZ_bd h
 obtain ⟨X, hX⟩ : ∃ X, X = pcs c := ⟨_, rfl⟩
 rw [← hX]
 obtain ⟨W, hW, b0, bel, hws⟩ := one_block w X 31
 have B0 : Hid _ := b0
 have BE : Hid (Below w.heap.size w W) := bel
 have HW : Hid _ := hW
 have HX : Hid _ := hX
 have X1 : Hid ((Tryz.prog.info? 31).map (·.size) = some X.size) := by show _ = _; rw [hX]; kernel_rfl
 have WS : Hid (w.heap.size ≤ W.heap.size) := by show _ ≤ _; omega
 have Z : Hid (∀ w, Calls Tryz.prog 23 #[.agg (pcs c)] w fun e w' => e = .returned (.int .i64 (SZ c)) ∧ Below w.heap.size w w') := fun w => bytes_of_any c w h
 have E : Hid (DATA c s.size = (((s.size : Int) % SZ c == 0) && inB ((s.size : Int) / SZ c) 1 16)) := rfl
 obtain ⟨z, hz⟩ : ∃ z, z = SZ c := ⟨_, rfl⟩
 rw [← hz] at s1 s2 Z E
 clear b0 bel hW hX hws hz h
 obtain ⟨q, hq⟩ : ∃ q, q = (s.size : Int) / z := ⟨_, rfl⟩
 obtain ⟨r, hr⟩ : ∃ r, r = (s.size : Int) % z := ⟨_, rfl⟩
 rw [← hq, ← hr] at E
 have q0 : 0 ≤ q := by rw [hq]; exact Int.ediv_nonneg (by omega) (by omega)
 have q1 : q ≤ (s.size : Int) := by rw [hq]; exact Int.ediv_le_self _ (by omega)
 have T1 : (s.size : Int).tmod z = r := by rw [hr]; exact Int.tmod_eq_emod_of_nonneg (by omega)
 have T2 : (s.size : Int).tdiv z = q := by rw [hq]; exact Int.tdiv_eq_ediv_of_nonneg (by omega)
 have z0 : (z == 0) = false := by simp; omega
 have T3 := hq.symm
 have T4 := hr.symm
 clear hq hr
 cases hr0 : (r == 0)
 · have R : Hid (DATA c s.size = false) := by show _ = _; rw [E.out, hr0]; rfl
   clear E
   go_enter Tryz.func21, Tryz.ntmps21
   go_upto_region 1 with fail
   rw [HW.out]
   go_wp2_with (first
    | (go_at_call 23; rw [HX.out]; refine (Z.out _).mono ?_; rintro e w1 ⟨rfl, hb⟩; have HB : Hid _ := hb; clear hb)
    | (refine wpList_load_row rfl 31 _ rfl w.heap.size rfl 31 X (0, 0) _ B0.out Tryz.underlying31 rfl X1.out ?_))
   go_ret
   exact ⟨ret_bool R.out.symm, BE.out.trans (HB.out.mono WS.out)⟩
 · have R : Hid (DATA c s.size = inB q 1 16) := by show _ = _; rw [E.out, hr0]; rfl
   clear E
   go_enter Tryz.func21, Tryz.ntmps21
   go_upto_region 1 with fail
   rw [HW.out]
   go_wp2_with (first
    | (go_at_call 23; rw [HX.out]; refine (Z.out _).mono ?_; rintro e w1 ⟨rfl, hb⟩; have HB : Hid _ := hb; clear hb)
    | (go_at_call 49; refine (within_any _ _ _ _).mono ?_; rintro e w' ⟨rfl, hw'⟩; subst w')
    | (refine wpList_load_row rfl 31 _ rfl w.heap.size rfl 31 X (0, 0) _ B0.out Tryz.underlying31 rfl X1.out ?_))
   go_ret
   exact ⟨ret_bool R.out.symm, BE.out.trans (HB.out.mono WS.out)⟩
set_option maxHeartbeats 2000000 in
set_option maxRecDepth 100000 in
theorem check_any (c : Cf) (s : ByteArray) (w : World) (hs : s.size ≤ maxLen) :
 Calls Tryz.prog 10 #[.agg (pcs c), .string s] w fun e w' => e = .returned (.int .i64 (CHK c s.size)) ∧ Below w.heap.size w w' := by
 obtain ⟨X, hX⟩ : ∃ X, X = pcs c := ⟨_, rfl⟩
 rw [← hX]
 obtain ⟨W, hW, b0, bel, hws⟩ := one_block w X 31
 have B0 : Hid _ := b0
 have BE : Hid (Below w.heap.size w W) := bel
 have HW : Hid _ := hW
 have HX : Hid _ := hX
 have X1 : Hid ((Tryz.prog.info? 31).map (·.size) = some X.size) := by show _ = _; rw [hX]; kernel_rfl
 have WS : Hid (w.heap.size ≤ W.heap.size) := by show _ ≤ _; omega
 have WT : Hid (w.heap.size < W.heap.size) := by show _ < _; omega
 clear b0 bel hW hX hws
 cases h1 : ALW c
 · have R : Hid (CHK c s.size = 1) := by show _ = _; unfold CHK; rw [if_pos h1]
   go_enter Tryz.func10, Tryz.ntmps10
   go_upto_region 1 with fail
   rw [HW.out]
   go_wp2_with (first
    | (go_at_call 20; rw [HX.out]; refine (isConfig_any c _).mono ?_; rintro e w1 ⟨rfl, hb⟩; rw [h1]; have HB : Hid _ := hb; clear hb)
    | (refine wpList_load_row rfl 31 _ rfl w.heap.size rfl 31 X (0, 0) _ B0.out Tryz.underlying31 rfl X1.out ?_))
   go_ret
   exact ⟨ret_int R.out.symm, BE.out.trans (HB.out.mono WS.out)⟩
 · cases h2 : DATA c s.size
   · have R : Hid (CHK c s.size = 2) := by show _ = _; unfold CHK; rw [if_neg (by rw [h1]; simp), if_pos h2]
     go_enter Tryz.func10, Tryz.ntmps10
     go_upto_region 1 with fail
     rw [HW.out]
     go_wp2_with (first
      | (go_at_call 20; rw [HX.out]; refine (isConfig_any c _).mono ?_; rintro e w1 ⟨rfl, hb⟩; rw [h1]; have HB : Hid _ := hb; have B1 : Hid (w1.heap[w.heap.size]? = some (.cells X 31 (0, 0))) := (hb.block _ WT.out).trans B0.out; have s1 := hb.size; clear hb)
      | (go_at_call 21; rw [HX.out]; refine (isData_any c s _ h1 hs).mono ?_; rintro e w2 ⟨rfl, hb⟩; rw [h2]; have HB2 : Hid _ := hb; clear hb)
      | (refine wpList_load_row rfl 31 _ rfl w.heap.size rfl 31 X (0, 0) _ B1.out Tryz.underlying31 rfl X1.out ?_)
      | (refine wpList_load_row rfl 31 _ rfl w.heap.size rfl 31 X (0, 0) _ B0.out Tryz.underlying31 rfl X1.out ?_))
     go_ret
     exact ⟨ret_int R.out.symm, (BE.out.trans (HB.out.mono WS.out)).trans (HB2.out.mono (Nat.le_trans WS.out s1))⟩
   · have R : Hid (CHK c s.size = 0) := by show _ = _; unfold CHK; rw [if_neg (by rw [h1]; simp), if_neg (by rw [h2]; simp)]
     go_enter Tryz.func10, Tryz.ntmps10
     go_upto_region 1 with fail
     rw [HW.out]
     go_wp2_with (first
      | (go_at_call 20; rw [HX.out]; refine (isConfig_any c _).mono ?_; rintro e w1 ⟨rfl, hb⟩; rw [h1]; have HB : Hid _ := hb; have B1 : Hid (w1.heap[w.heap.size]? = some (.cells X 31 (0, 0))) := (hb.block _ WT.out).trans B0.out; have s1 := hb.size; clear hb)
      | (go_at_call 21; rw [HX.out]; refine (isData_any c s _ h1 hs).mono ?_; rintro e w2 ⟨rfl, hb⟩; rw [h2]; have HB2 : Hid _ := hb; clear hb)
      | (refine wpList_load_row rfl 31 _ rfl w.heap.size rfl 31 X (0, 0) _ B1.out Tryz.underlying31 rfl X1.out ?_)
      | (refine wpList_load_row rfl 31 _ rfl w.heap.size rfl 31 X (0, 0) _ B0.out Tryz.underlying31 rfl X1.out ?_))
     go_ret
     exact ⟨ret_int R.out.symm, (BE.out.trans (HB.out.mono WS.out)).trans (HB2.out.mono (Nat.le_trans WS.out s1))⟩
end Go.Proofs.YtoihkljlekknkaaGreat
