/-
  A new layer, and a new hidden layer, of the program. Conditions: the numbers are small.
-/
import Derived.Test.YtoihkljlekknkaaGreatAp26
namespace Go.Proofs.YtoihkljlekknkaaGreat
open Go.RowKit
open Go.Joins (cell_of_block unfrozen_of_block)
set_option linter.unusedVariables false
set_option linter.unusedSimpArgs false
/-- a layer's cells -/
def LY (a n f g : Nat) : Array Value := #[.int .i64 (a : Int), .int .i64 (n : Int), .int .i64 (f : Int), .slice none 0 0, .slice (some ⟨g, 0, none⟩) n n]
def zl : Array Value := #[.int .i64 0, .int .i64 0, .int .i64 0, .slice none 0 0, .slice none 0 0]
theorem LY_one (a n f g : Nat) : (LY a n f g).all (·.oneCell') = true := by simp [LY, Value.oneCell']
theorem LY_info (a n f g : Nat) : (Tryz.prog.info? 84).map (·.size) = some (LY a n f g).size := by show _ = some 5; kernel_rfl
set_option maxHeartbeats 4000000 in
set_option maxRecDepth 100000 in
theorem newLayer_any (a n f : Nat) (w : World) (n4 : n ≤ 1000) :
 Calls Tryz.prog 51 #[.int .i64 (a : Int), .int .i64 (n : Int), .int .i64 (f : Int)] w fun e w' => ∃ g, e = .returned (.agg (LY a n f g)) ∧ w.heap.size ≤ g ∧ w'.heap[g]? = some (.cells (u32s (List.replicate n 0)) 29 (0, 0)) ∧ Below w.heap.size w w' := by
 obtain ⟨j0, ji, jz0, jz1, jz2⟩ := info_three Tryz.infoU
 obtain ⟨W, hW, b0, bel, hws⟩ := one_block w zl 84
 obtain ⟨g, hg⟩ : ∃ g, g = W.heap.size := ⟨_, rfl⟩
 obtain ⟨B, hB⟩ : ∃ g, g = w.heap.size := ⟨_, rfl⟩
 have BE : Hid (Below w.heap.size w W) := bel
 have B0 : Hid (W.heap[B]? = some (.cells zl 84 (0, 0))) := by rw [hB]; exact b0
 have HW : Hid _ := hW
 have HG : Hid _ := hg
 have HB : Hid _ := hB
 have NE : Hid (g ≠ B) := by show ¬ _; omega
 obtain ⟨Y, hY⟩ : ∃ Y, Y = LY a n f g := ⟨_, rfl⟩
 have HY : Hid _ := hY
 have IY : Hid ((Tryz.prog.info? 84).map (·.size) = some Y.size) := by rw [hY]; exact LY_info a n f g
 have OY : Hid (Y.all (·.oneCell') = true) := by show _ = _; rw [hY]; exact LY_one a n f g
 have SY : Hid (zl.size = Y.size) := by show _ = _; rw [hY]; rfl
 clear hW b0 bel hws hg hB hY
 go_enter Tryz.func51, Tryz.ntmps51
 go_upto_region 1 with fail
 rw [show w.alloc (.cells #[.int .i64 0, .int .i64 0, .int .i64 0, .slice none 0 0, .slice none 0 0] 84) = W from HW.out]
 rw [← HB.out]
 go_wp2_with (first
  | (at_make; refine wpList_make_full _ rfl _ _ 43 rfl W.heap.size 29 j0 _ 1 Tryz.under43 ji jz0 jz1 _ _ _ _ n rfl rfl rfl rfl (by rw [jz2]; omega) (by unfold maxLen; omega) (Nat.le_refl _) ?_
     intro w1 hown hgr
     rw [Nat.mul_one] at hown
     have b1 : Below W.heap.size W w1 := (Below.refl _ _).grown hgr (Nat.le_refl _) (by simp)
     have H1 : Hid (w1.heap[W.heap.size]? = some (.cells (u32s (List.replicate n 0)) 29 (0, 0))) := made_u32 hown
     have Z1 : Hid (w1.heap[B]? = some (.cells zl 84 (0, 0))) := (b1.block _ (lt_of_heap B0.out)).trans B0.out
     have B1 : Hid (Below w.heap.size w w1) := BE.out.trans (b1.mono BE.out.size)
     rw [← HG.out] at H1 ⊢
     clear hown hgr b1)
  | (refine wpList_store_row rfl 84 _ _ rfl B Y rfl (by rw [HY.out]; rfl) 84 zl Z1.out IY.out SY.out OY.out ?_))
 have R1 : Hid ((w1.setRow B Y).heap[g]? = some (.cells (u32s (List.replicate n 0)) 29 (0, 0))) := by show _ = _; rw [setRow_other _ _ _ _ NE.out]; exact H1.out
 refine bodyPost_ret (v := .agg Y) (results_cell_row Tryz.results51 _ _ B 84 Y (0, 0) _ rfl (setRow_heap w1 _ _ _ _ _ Z1.out) Tryz.underlying84 rfl IY.out) rfl ⟨g, by rw [HY.out], ?_, R1.out, Below.setRow B1.out (by rw [HB.out]; exact Nat.le_refl _) _⟩
 rw [HG.out]; exact BE.out.size
/-- a hidden layer's cells -/
def BN (a n f g : Nat) (bend : Int) (h : Nat) : Array Value := #[.int .i64 (a : Int), .int .i64 (n : Int), .int .i64 (f : Int), .slice none 0 0, .slice (some ⟨g, 0, none⟩) n n, .int .i64 bend, .slice (some ⟨h, 0, none⟩) n n]
def zb : Array Value := #[.int .i64 0, .int .i64 0, .int .i64 0, .slice none 0 0, .slice none 0 0, .int .i64 0, .slice none 0 0]
theorem BN_one (a n f g : Nat) (bend : Int) (h : Nat) : (BN a n f g bend h).all (·.oneCell') = true := by simp [BN, Value.oneCell']
theorem BN_info (a n f g : Nat) (bend : Int) (h : Nat) : (Tryz.prog.info? 91).map (·.size) = some (BN a n f g bend h).size := by show _ = some 7; kernel_rfl
set_option maxHeartbeats 4000000 in
set_option maxRecDepth 100000 in
theorem newBent_any (a n f g : Nat) (bend : Int) (w : World) (n4 : n ≤ 1000) :
 Calls Tryz.prog 52 #[.agg (LY a n f g), .int .i64 bend] w fun e w' => ∃ h, e = .returned (.agg (BN a n f g bend h)) ∧ w.heap.size ≤ h ∧ w'.heap[h]? = some (.cells (u32s (List.replicate n 0)) 29 (0, 0)) ∧ Below w.heap.size w w' := by
 obtain ⟨Y, hY⟩ : ∃ Y, Y = LY a n f g := ⟨_, rfl⟩
 obtain ⟨W, hW, b0, b1, bel, hws⟩ := two_blocks w Y zb 84 91
 have y1 : Y[1]? = some (.int .i64 (n : Int)) := by rw [hY]; rfl
 have IY : (Tryz.prog.info? 84).map (·.size) = some Y.toList.length := by rw [hY]; exact LY_info a n f g
 have HI : Hid _ := IY
 have HY : Hid _ := hY
 obtain ⟨B0, hB0⟩ : ∃ B, B = w.heap.size := ⟨_, rfl⟩
 obtain ⟨B1, hB1⟩ : ∃ B, B = w.heap.size + 1 := ⟨_, rfl⟩
 rw [← hB0] at b0
 rw [← hB1] at b1
 have s0 : W.heap[B0]? = some (.cells Y 84 (0, 0)) ∧ W.cell? ⟨B0, 1, none⟩ = some (.int .i64 (n : Int)) := ⟨b0, (cell_of_block b0 1).trans y1⟩
 have BE : Hid (Below w.heap.size w W) := bel
 have Z0 : Hid (W.heap[B1]? = some (.cells zb 91 (0, 0))) := b1
 have HW : Hid _ := hW
 have HB0 : Hid _ := hB0
 have HB1 : Hid _ := hB1
 have S0 : Hid _ := s0
 have Y1 : Hid _ := y1
 have NB : Hid (B0 ≠ B1) := by show ¬ _; omega
 rw [← hY]
 clear hW b0 b1 bel hws hB0 hB1 hY y1 IY
 go_enter Tryz.func52, Tryz.ntmps52
 go_upto_region 1 with fail
 rw [show (w.alloc (.cells Y 84)).alloc (.cells #[.int .i64 0, .int .i64 0, .int .i64 0, .slice none 0 0, .slice none 0 0, .int .i64 0, .slice none 0 0] 91) = W from HW.out]
 rw [← HB1.out, ← HB0.out]
 refine wp_region_held_drew (S := fun w' => w'.heap[B0]? = some (.cells Y 84 (0, 0)) ∧ w'.cell? ⟨B0, 1, none⟩ = some (.int .i64 (n : Int))) (by kernel_rfl) s0 (fun hS => ?_)
 refine wpAnyH_take (i := 0) (oi := ⟨some 5, .load 84 (.tmp 2), 84, "bent.go:20", #[], none⟩) (v := .agg Y.toList.toArray) rfl (by kernel_rfl) (by kernel_rfl) (by kernel_rfl) (fun _ _ _ h => h) (yieldsIf_load_mid (by rfl) 84 _ rfl B0 0 rfl Y.toList _ (fun w h => rng h.1) Tryz.underlying84 rfl HI.out) hS ?_
 rw [Array.toArray_toList]
 try go_frame
 refine wpAnyH_take (i := 1) (oi := ⟨some 6, .move (.tmp 1), 3, "bent.go:20", #[], none⟩) (v := ?_) rfl (by kernel_rfl) (by kernel_rfl) (by kernel_rfl) (fun _ _ _ h => h) (Or.inl ⟨by kernel_rfl, ?_⟩) hS ?_
 rotate_left
 · intro w hSw; (try dsimp only at hSw); go_simp; (try with_reducible rfl)
 try go_frame
 refine wpAnyH_take (i := 2) (oi := ⟨some 7, .fieldAddr 84 (.tmp 2) 1, 0, "bent.go:20", #[], none⟩) (v := ?_) rfl (by kernel_rfl) (by kernel_rfl) (by kernel_rfl) (fun _ _ _ h => h) (Or.inl ⟨by kernel_rfl, ?_⟩) hS ?_
 rotate_left
 · intro w hSw; (try dsimp only at hSw); go_simp; (try with_reducible rfl)
 try go_frame
 refine wpAnyH_take (i := 3) (oi := ⟨some 8, .load 3 (.tmp 7), 3, "bent.go:20", #[⟨2, .data⟩], none⟩) (v := ?_) rfl (by kernel_rfl) (by kernel_rfl) (by kernel_rfl) (fun _ _ _ h => h) (Or.inl ⟨by kernel_rfl, ?_⟩) hS ?_
 rotate_left
 · intro w hSw; (try dsimp only at hSw); go_simp; (try with_reducible rfl)
 try go_frame
 refine wpAnyH_ready (rs := [4]) (by kernel_rfl) (by simp) ?_
 refine AllReadyH.cons (o := ⟨some 9, .makeSlice 43 (.tmp 8) (.tmp 8), 43, "bent.go:20", #[⟨3, .data⟩, ⟨3, .data⟩], none⟩) rfl (fun K hK => ?_) AllReadyH.nil
 refine Tryz.step_make rfl _ _ rfl n rfl rfl n4 (fun h w1 hh lh bh => ?_)
 have b1 : Below W.heap.size W w1 := ((Below.refl _ _).drew).trans bh
 have B1' : Hid (Below w.heap.size w w1) := BE.out.trans (b1.mono BE.out.size)
 have Z1 : Hid (w1.heap[B1]? = some (.cells zb 91 (0, 0))) := (b1.block _ (lt_of_heap Z0.out)).trans Z0.out
 have Q1 : Hid (w1.heap[B0]? = some (.cells Y 84 (0, 0))) := (b1.block _ (lt_of_heap S0.out.1)).trans S0.out.1
 have HH : Hid _ := hh
 have LH : Hid (W.heap.size ≤ h) := lh
 obtain ⟨N, hN⟩ : ∃ N, N = BN a n f g bend h := ⟨_, rfl⟩
 have HN : Hid _ := hN
 have IN : Hid ((Tryz.prog.info? 91).map (·.size) = some N.size) := by rw [hN]; exact BN_info a n f g bend h
 have ON : Hid (N.all (·.oneCell') = true) := by show _ = _; rw [hN]; exact BN_one a n f g bend h
 have SN : Hid (zb.size = N.size) := by show _ = _; rw [hN]; rfl
 have hb1 : h ≠ B1 := by have := lt_of_heap Z0.out; have := LH.out; omega
 have HB : Hid _ := hb1
 clear hh lh bh b1 hN hb1
 refine hK.out _ _ ⟨Q1.out, (cell_of_block Q1.out 1).trans Y1.out⟩ (fun hS => ?_)
 try go_frame
 clear hK K
 refine wpAnyH_take (i := 5) (oi := ⟨some 10, .build 91 #[(0, .tmp 5), (1, .tmp 6), (2, .tmp 9)], 91, "bent.go:20", #[⟨0, .data⟩, ⟨1, .data⟩, ⟨4, .data⟩], none⟩) (v := .agg N) rfl (by kernel_rfl) (by kernel_rfl) (by kernel_rfl) (fun _ _ _ h => h) (Or.inl ⟨by kernel_rfl, ?_⟩) hS ?_
 · intro w hSw
   clear hSw hS
   rw [HN.out, HY.out]
   unfold LY BN
   go_simp
 try go_frame
 refine wpAnyH_ready (rs := [6]) (by kernel_rfl) (by simp) ?_
 refine AllReadyH.cons (o := ⟨none, .store 91 (.tmp 4) (.tmp 10), 0, "bent.go:20", #[⟨5, .data⟩, ⟨0, .phase⟩, ⟨1, .phase⟩, ⟨2, .phase⟩, ⟨3, .phase⟩, ⟨4, .phase⟩, ⟨5, .phase⟩], none⟩) rfl (fun K hK => ?_) AllReadyH.nil
 rw [if_pos (by rfl)]
 refine wp_store_row 91 _ _ rfl B1 N rfl rfl 91 zb Z1.out IN.out SN.out ON.out ?_
 have Q2 : Hid ((w1.setRow B1 N).heap[B0]? = some (.cells Y 84 (0, 0))) := by show _ = _; rw [setRow_other _ _ _ _ NB.out]; exact Q1.out
 refine hK.out _ _ ⟨Q2.out, (cell_of_block Q2.out 1).trans Y1.out⟩ (fun hS => ?_)
 try go_frame
 clear hK K
 refine wpAnyH_done (by kernel_rfl) ?_ _
 clear hS
 have R1 : Hid ((w1.setRow B1 N).heap[h]? = some (.cells (u32s (List.replicate n 0)) 29 (0, 0))) := by show _ = _; rw [setRow_other _ _ _ _ HB.out]; exact HH.out
 go_wp2
 refine bodyPost_ret (v := .agg N) (results_cell_row Tryz.results52 _ _ B1 91 N (0, 0) _ rfl (setRow_heap w1 _ _ _ _ _ Z1.out) Tryz.underlying91 rfl IN.out) rfl ⟨h, by rw [HN.out], Nat.le_trans BE.out.size LH.out, R1.out, Below.setRow B1'.out (by rw [HB1.out]; omega) _⟩
end Go.Proofs.YtoihkljlekknkaaGreat
