/-
  The state at first, of the program. Conditions: the seed is a pattern; at most 1000 parameters.
-/
import Derived.Test.YtoihkljlekknkaaGreatAp21
namespace Go.Proofs.YtoihkljlekknkaaGreat
open Go.RowKit
open Go.Joins (cell_of_block unfrozen_of_block)
set_option linter.unusedVariables false
set_option linter.unusedSimpArgs false
/-- a make of patterns, at a step of a region that draws its order -/
theorem Tryz.step_make {ops : Array Oper} {o : Oper} {a : Act} {K : Act → World → Prop} {Q : Exit → Act → World → Prop} {E : Prop} {w : World} (hg : o.guard = none) (l c : Operand) (hop : o.op = Op.makeSlice 43 l c) (n : Nat) (hl : a.eval l = .int .i64 (n : Int)) (hc : a.eval c = .int .i64 (n : Int)) (hn : n ≤ 1000)
 (h : ∀ g w', w'.heap[g]? = some (.cells (u32s (List.replicate n 0)) 29 (0, 0)) → w.heap.size ≤ g → Below w.heap.size w w' → K (a.put o.dst (.slice (some ⟨g, 0, none⟩) n n)) w') :
 if Region.wanted o (yielded ops a.tmps) = true then Oper.wp Tryz.prog o a w K Q else E := by
 rw [if_pos (by simp [Region.wanted, hg])]
 obtain ⟨j0, ji, jz0, jz1, jz2⟩ := info_three Tryz.infoU
 obtain ⟨w', hrun, r1, r2⟩ := run_make_full (P := Tryz.prog) w w.heap.size 43 29 j0 _ 1 Tryz.under43 ji jz0 jz1 .i64 .i64 n (by rw [jz2]; omega) (by unfold maxLen; omega) (Nat.le_refl _)
 unfold Oper.wp
 simp [execOp, hop, hl, hc, hrun, Result.andThen]
 rw [Nat.mul_one] at r1
 exact h _ _ (made_u32 r1) (Nat.le_refl _) ((Below.refl _ _).grown r2 (Nat.le_refl _) (by simp))
def PARS (seed : Int) (n : Nat) : List Int := (List.range n).map (PAR0 seed)
theorem PARS_pats (seed : Int) (n : Nat) : pats (PARS seed n) := pats_map _ _ fun k => PAR0_bd seed k
set_option maxHeartbeats 16000000 in
set_option maxRecDepth 100000 in
theorem firstState_any (seed : Int) (n : Nat) (w : World) (hs : 0 ≤ seed ∧ seed < 4294967296) (n4 : n ≤ 1000) :
 Calls Tryz.prog 25 #[.int .u32 seed, .int .i64 (n : Int)] w fun e w' => ∃ s : St, s.ok ∧ (∀ k, s.O k → w.heap.size ≤ k) ∧ e = .returned (.pointer (some ⟨s.Ss, 0, none⟩)) ∧ StS s n 0 (PARS seed n) (List.replicate n 0) (List.replicate n 0) w' ∧ Below w.heap.size w w' := by
 obtain ⟨F, hF⟩ : ∃ F : Nat → Int, F = PAR0 seed := ⟨_, rfl⟩
 have FE : Hid (PARS seed n = (List.range n).map F) := by show _ = _; rw [hF]; rfl
 have FC : Hid (∀ X (i : Nat), i < n → Calls Tryz.prog 54 #[.int .u32 seed, .int .i64 (i : Int)] X fun e w' => e = .returned (.int .u32 (F i)) ∧ w' = X) := fun X i hi => by rw [hF]; exact firstParameter_any seed i X hs.1 hs.2 (by omega)
 rw [FE.out]
 clear hF hs
 go_enter Tryz.func25, Tryz.ntmps25
 go_upto_region 1 with fail
 refine wp_region_held_drew (S := fun w' => True) (by kernel_rfl) trivial (fun hS => ?_)
 refine wpAnyH_take (i := 0) (oi := ⟨some 7, .move (.tmp 1), 3, "state.go:14", #[], none⟩) (v := ?_) rfl (by kernel_rfl) (by kernel_rfl) (by kernel_rfl) (fun _ _ _ h => h) (Or.inl ⟨by kernel_rfl, ?_⟩) hS ?_
 rotate_left
 · intro w hSw; (try dsimp only at hSw); go_simp; (try with_reducible rfl)
 try go_frame
 refine wpAnyH_take (i := 2) (oi := ⟨some 9, .move (.tmp 1), 3, "state.go:14", #[], none⟩) (v := ?_) rfl (by kernel_rfl) (by kernel_rfl) (by kernel_rfl) (fun _ _ _ h => h) (Or.inl ⟨by kernel_rfl, ?_⟩) hS ?_
 rotate_left
 · intro w hSw; (try dsimp only at hSw); go_simp; (try with_reducible rfl)
 try go_frame
 refine wpAnyH_take (i := 4) (oi := ⟨some 11, .move (.tmp 1), 3, "state.go:14", #[], none⟩) (v := ?_) rfl (by kernel_rfl) (by kernel_rfl) (by kernel_rfl) (fun _ _ _ h => h) (Or.inl ⟨by kernel_rfl, ?_⟩) hS ?_
 rotate_left
 · intro w hSw; (try dsimp only at hSw); go_simp; (try with_reducible rfl)
 try go_frame
 refine wpAnyH_ready (rs := [1, 3, 5]) (by kernel_rfl) (by simp) ?_
 refine AllReadyH.cons (o := ⟨some 8, .makeSlice 43 (.tmp 7) (.tmp 7), 43, "state.go:14", #[⟨0, .data⟩, ⟨0, .data⟩], none⟩) rfl (fun K hK => ?_) ?_
 · skip
   refine Tryz.step_make rfl _ _ rfl n rfl rfl n4 (fun gp w1 hp lp bp => ?_)
   have B1 : Hid (Below w.heap.size w w1) := ((Below.refl _ _).drew).trans bp
   have Gp1 : Hid (w.heap.size ≤ gp) := lp
   have Hp1 : Hid _ := hp
   clear hp lp bp
   refine hK.out _ _ trivial (fun hS => ?_)
   try go_frame
   clear hK K
   refine wpAnyH_ready (rs := [3, 5]) (by kernel_rfl) (by simp) ?_
   refine AllReadyH.cons (o := ⟨some 10, .makeSlice 43 (.tmp 9) (.tmp 9), 43, "state.go:14", #[⟨2, .data⟩, ⟨2, .data⟩], none⟩) rfl (fun K hK => ?_) ?_
   · skip
     refine Tryz.step_make rfl _ _ rfl n rfl rfl n4 (fun gv w2 hv lv bv => ?_)
     have B2 : Hid (Below w.heap.size w w2) := B1.out.trans (bv.mono B1.out.size)
     have Gv1 : Hid (w.heap.size ≤ gv) := Nat.le_trans B1.out.size lv
     have Hv2 : Hid _ := hv
     have Hp2 : Hid (w2.heap[gp]? = some (.cells (u32s (List.replicate n 0)) 29 (0, 0))) := (bv.block _ (lt_of_heap Hp1.out)).trans Hp1.out
     have Npv : Hid (gp ≠ gv) := by have := lt_of_heap Hp1.out; show ¬ _; omega
     have Nvp : Hid (gv ≠ gp) := by have := lt_of_heap Hp1.out; show ¬ _; omega
     clear hv lv bv
     refine hK.out _ _ trivial (fun hS => ?_)
     try go_frame
     clear hK K
     refine wpAnyH_ready (rs := [5]) (by kernel_rfl) (by simp) ?_
     refine AllReadyH.cons (o := ⟨some 12, .makeSlice 43 (.tmp 11) (.tmp 11), 43, "state.go:14", #[⟨4, .data⟩, ⟨4, .data⟩], none⟩) rfl (fun K hK => ?_) AllReadyH.nil
     refine Tryz.step_make rfl _ _ rfl n rfl rfl n4 (fun gm w3 hm lm bm => ?_)
     have B3 : Hid (Below w.heap.size w w3) := B2.out.trans (bm.mono B2.out.size)
     have Gm1 : Hid (w.heap.size ≤ gm) := Nat.le_trans B2.out.size lm
     have Hm3 : Hid _ := hm
     have Hp3 : Hid (w3.heap[gp]? = some (.cells (u32s (List.replicate n 0)) 29 (0, 0))) := (bm.block _ (lt_of_heap Hp2.out)).trans Hp2.out
     have Npm : Hid (gp ≠ gm) := by have := lt_of_heap Hp2.out; show ¬ _; omega
     have Nmp : Hid (gm ≠ gp) := by have := lt_of_heap Hp2.out; show ¬ _; omega
     have Hv3 : Hid (w3.heap[gv]? = some (.cells (u32s (List.replicate n 0)) 29 (0, 0))) := (bm.block _ (lt_of_heap Hv2.out)).trans Hv2.out
     have Nvm : Hid (gv ≠ gm) := by have := lt_of_heap Hv2.out; show ¬ _; omega
     have Nmv : Hid (gm ≠ gv) := by have := lt_of_heap Hv2.out; show ¬ _; omega
     clear hm lm bm
     refine hK.out _ _ trivial (fun hS => ?_)
     try go_frame
     clear hK K
     refine wpAnyH_take (i := 6) (oi := ⟨some 13, .build 45 #[(1, .tmp 8), (2, .tmp 10), (3, .tmp 12)], 45, "state.go:14", #[⟨1, .data⟩, ⟨3, .data⟩, ⟨5, .data⟩], none⟩) (v := ?_) rfl (by kernel_rfl) (by kernel_rfl) (by kernel_rfl) (fun _ _ _ h => h) (Or.inl ⟨by kernel_rfl, ?_⟩) hS ?_
     rotate_left
     · intro w hSw; (try dsimp only at hSw); go_simp; (try with_reducible rfl)
     try go_frame
     refine wpAnyH_ready (rs := [7]) (by kernel_rfl) (by simp) ?_
     refine AllReadyH.cons (o := ⟨some 14, .box 45 (.tmp 13), 41, "state.go:14", #[⟨6, .data⟩], none⟩) rfl (fun K hK => ?_) AllReadyH.nil
     go_simp
     refine hK.out _ _ trivial (fun hS => ?_)
     try go_frame
     clear hK K
     refine wpAnyH_take (i := 8) (oi := ⟨some 5, .assign (.tmp 14), 41, "state.go:14", #[⟨7, .data⟩, ⟨0, .phase⟩, ⟨1, .phase⟩, ⟨2, .phase⟩, ⟨3, .phase⟩, ⟨4, .phase⟩, ⟨5, .phase⟩, ⟨6, .phase⟩, ⟨7, .phase⟩], none⟩) (v := ?_) rfl (by kernel_rfl) (by kernel_rfl) (by kernel_rfl) (fun _ _ _ h => h) (Or.inl ⟨by kernel_rfl, ?_⟩) hS ?_
     rotate_left
     · intro w hSw; (try dsimp only at hSw); go_simp; (try with_reducible rfl)
     try go_frame
     refine wpAnyH_done (by kernel_rfl) ?_ _
     clear hS
     obtain ⟨Ss, hSs⟩ : ∃ x, x = w3.heap.size := ⟨_, rfl⟩
     obtain ⟨W, hW⟩ : ∃ W, W = w3.alloc (.cells #[.int .i64 0, .slice (some ⟨gp, 0, none⟩) n n, .slice (some ⟨gv, 0, none⟩) n n, .slice (some ⟨gm, 0, none⟩) n n] 45) := ⟨_, rfl⟩
     have ba : Below w3.heap.size w3 W := by rw [hW]; exact (Below.refl _ _).alloc (Nat.le_refl _) _
     have S4 : Hid (W.heap[Ss]? = some (.cells #[.int .i64 0, .slice (some ⟨gp, 0, none⟩) n n, .slice (some ⟨gv, 0, none⟩) n n, .slice (some ⟨gm, 0, none⟩) n n] 45 (0, 0))) := by show _ = _; rw [hW, hSs]; exact heap_alloc_new w3 _
     have P4 : Hid (W.heap[gp]? = some (.cells (u32s (List.replicate n 0)) 29 (0, 0))) := (ba.block _ (lt_of_heap Hp3.out)).trans Hp3.out
     have V4 : Hid (W.heap[gv]? = some (.cells (u32s (List.replicate n 0)) 29 (0, 0))) := (ba.block _ (lt_of_heap Hv3.out)).trans Hv3.out
     have M4 : Hid (W.heap[gm]? = some (.cells (u32s (List.replicate n 0)) 29 (0, 0))) := (ba.block _ (lt_of_heap Hm3.out)).trans Hm3.out
     have B4 : Hid (Below w.heap.size w W) := B3.out.trans (ba.mono B3.out.size)
     have NS : Hid (Ss ≠ gp ∧ Ss ≠ gv ∧ Ss ≠ gm) := by
      have a1 := lt_of_heap Hp3.out; have a2 := lt_of_heap Hv3.out; have a3 := lt_of_heap Hm3.out
      exact ⟨by omega, by omega, by omega⟩
     have GS : Hid (w.heap.size ≤ Ss) := by show _ ≤ _; rw [hSs]; exact B3.out.size
     have sz : W.cell? ⟨Ss, 1, none⟩ = some (.slice (some ⟨gp, 0, none⟩) n n) := cell_of_block S4.out 1
     rw [← hSs, ← hW]
     clear hSs hW ba Hp1 Hp2 Hp3 Hv2 Hv3 Hm3 B1 B2 B3
     go_wp2
     clear sz
     go_loopw [20] (fun iv wr => ∃ i : Nat, i ≤ n ∧ iv = .int .i64 i ∧ ∃ l : List Int, Hid (l.length = n) ∧ Hid (∀ k, k < i → l.getD k 0 = F k) ∧ Hid (wr.heap[gp]? = some (.cells (u32s l) 29 (0, 0))) ∧ Hid (But (fun k => k = gp) W wr)) (fun iv _ => n - (intOf iv).toNat)
     case atStart => exact ⟨0, by omega, rfl, _, List.length_replicate, fun k hk => absurd hk (by omega), P4.out, But.refl _ _⟩
     case round =>
      clear P4
      obtain ⟨i, hi, rfl, l, LL, LI, HL, UW⟩ := hrel
      by_cases hlt : i < n
      · have s1 : wr.cell? ⟨Ss, 1, none⟩ = some (.slice (some ⟨gp, 0, none⟩) n n) := (UW.out.cell (lt_of_heap S4.out) NS.out.1 1).trans (cell_of_block S4.out 1)
        have X1 : Hid (∀ X, Calls Tryz.prog 54 #[.int .u32 seed, .int .i64 (i : Int)] X fun e w' => e = .returned (.int .u32 (F i)) ∧ w' = X) := fun X => FC.out X i hlt
        obtain ⟨fv, hfv⟩ : ∃ v, v = F i := ⟨_, rfl⟩
        have FV : Hid _ := hfv
        rw [← hfv] at X1
        have ai : wr.cell? ⟨gp, i, none⟩ = some (.int .u32 (l.getD i 0)) := (cell_of_block HL.out _).trans (u32s_at l i (by rw [LL.out]; exact hlt))
        have fi : wr.frozen? ⟨gp, i, none⟩ = false := unfrozen_of_block HL.out _
        have U5 : Hid (But (fun k => k = gp) W (wr.setCell ⟨gp, i, none⟩ (.int .u32 fv))) := UW.out.trans (But.set _ gp i _ rfl)
        have K5 : Hid ((wr.setCell ⟨gp, i, none⟩ (.int .u32 fv)).cell? ⟨Ss, 1, none⟩ = some (.slice (some ⟨gp, 0, none⟩) n n)) := (U5.out.cell (lt_of_heap S4.out) NS.out.1 1).trans (cell_of_block S4.out 1)
        have il : (i : Int) < (n : Int) := by omega
        have i0 : (0 : Int) ≤ (i : Int) := by omega
        clear hfv
        go_upto_region 5 with fail
        go_region_held3 (fun w' => w'.cell? ⟨Ss, 1, none⟩ = some (.slice (some ⟨gp, 0, none⟩) n n)) (first | exact s1 | exact K5.out) (first
         | (go_at_call 54; refine (X1.out _).mono ?_; rintro e w6 ⟨rfl, hw'⟩; subst w6))
        go_wp2
        go_roundw
        case rel =>
         refine ⟨i + 1, by omega, by go_num, l.set i fv, ?_, fun k hk => ?_, ?_, U5.out.trans (But.below ((Below.refl _ _).drew))⟩
         · show _ = _; rw [List.length_set]; exact LL.out
         · rw [getD_set]
           by_cases e : i = k
           · rw [if_pos ⟨e, by rw [LL.out]; exact hlt⟩, FV.out, e]
           · rw [if_neg (fun h => e h.1)]; exact LI.out k (by omega)
         · show (wr.setCell ⟨gp, i, none⟩ (.int .u32 fv)).heap[gp]? = _; rw [heap_set _ gp i _ _ 29 _ HL.out, u32s_set]
        case measure => simp [intOf]; omega
      · have hie : n = i := by omega
        have R : Hid (wr.heap[gp]? = some (.cells (u32s ((List.range n).map F)) 29 (0, 0))) := by
         show _ = _
         rw [HL.out, list_of l n F LL.out fun k hk => LI.out k (by omega)]
        clear hie
        go_wp2
        go_ret
        refine ⟨⟨Ss, gp, gv, gm, 45⟩, ⟨NS.out.1, NS.out.2.1, NS.out.2.2, Npv.out, Npm.out, Nvm.out⟩, ?_, rfl, ⟨⟨_, (UW.out.block _ (lt_of_heap S4.out) NS.out.1).trans S4.out, rfl, rfl, rfl, rfl⟩, R.out, (UW.out.block _ (lt_of_heap V4.out) Nvp.out).trans V4.out, (UW.out.block _ (lt_of_heap M4.out) Nmp.out).trans M4.out, by simp, List.length_replicate, List.length_replicate⟩, ⟨UW.out.os.trans B4.out.os, UW.out.tape.trans B4.out.tape, UW.out.output.trans B4.out.output, Nat.le_trans B4.out.size UW.out.size, fun k hk => (UW.out.block k (Nat.lt_of_lt_of_le hk B4.out.size) (by have := Gp1.out; omega)).trans (B4.out.block k hk)⟩⟩
        rintro k (e | e | e | e)
        · rw [e]; exact GS.out
        · rw [e]; exact Gp1.out
        · rw [e]; exact Gv1.out
        · rw [e]; exact Gm1.out
   refine AllReadyH.cons (o := ⟨some 12, .makeSlice 43 (.tmp 11) (.tmp 11), 43, "state.go:14", #[⟨4, .data⟩, ⟨4, .data⟩], none⟩) rfl (fun K hK => ?_) AllReadyH.nil
   refine Tryz.step_make rfl _ _ rfl n rfl rfl n4 (fun gm w2 hm lm bm => ?_)
   have B2 : Hid (Below w.heap.size w w2) := B1.out.trans (bm.mono B1.out.size)
   have Gm1 : Hid (w.heap.size ≤ gm) := Nat.le_trans B1.out.size lm
   have Hm2 : Hid _ := hm
   have Hp2 : Hid (w2.heap[gp]? = some (.cells (u32s (List.replicate n 0)) 29 (0, 0))) := (bm.block _ (lt_of_heap Hp1.out)).trans Hp1.out
   have Npm : Hid (gp ≠ gm) := by have := lt_of_heap Hp1.out; show ¬ _; omega
   have Nmp : Hid (gm ≠ gp) := by have := lt_of_heap Hp1.out; show ¬ _; omega
   clear hm lm bm
   refine hK.out _ _ trivial (fun hS => ?_)
   try go_frame
   clear hK K
   refine wpAnyH_ready (rs := [3]) (by kernel_rfl) (by simp) ?_
   refine AllReadyH.cons (o := ⟨some 10, .makeSlice 43 (.tmp 9) (.tmp 9), 43, "state.go:14", #[⟨2, .data⟩, ⟨2, .data⟩], none⟩) rfl (fun K hK => ?_) AllReadyH.nil
   refine Tryz.step_make rfl _ _ rfl n rfl rfl n4 (fun gv w3 hv lv bv => ?_)
   have B3 : Hid (Below w.heap.size w w3) := B2.out.trans (bv.mono B2.out.size)
   have Gv1 : Hid (w.heap.size ≤ gv) := Nat.le_trans B2.out.size lv
   have Hv3 : Hid _ := hv
   have Hp3 : Hid (w3.heap[gp]? = some (.cells (u32s (List.replicate n 0)) 29 (0, 0))) := (bv.block _ (lt_of_heap Hp2.out)).trans Hp2.out
   have Npv : Hid (gp ≠ gv) := by have := lt_of_heap Hp2.out; show ¬ _; omega
   have Nvp : Hid (gv ≠ gp) := by have := lt_of_heap Hp2.out; show ¬ _; omega
   have Hm3 : Hid (w3.heap[gm]? = some (.cells (u32s (List.replicate n 0)) 29 (0, 0))) := (bv.block _ (lt_of_heap Hm2.out)).trans Hm2.out
   have Nmv : Hid (gm ≠ gv) := by have := lt_of_heap Hm2.out; show ¬ _; omega
   have Nvm : Hid (gv ≠ gm) := by have := lt_of_heap Hm2.out; show ¬ _; omega
   clear hv lv bv
   refine hK.out _ _ trivial (fun hS => ?_)
   try go_frame
   clear hK K
   refine wpAnyH_take (i := 6) (oi := ⟨some 13, .build 45 #[(1, .tmp 8), (2, .tmp 10), (3, .tmp 12)], 45, "state.go:14", #[⟨1, .data⟩, ⟨3, .data⟩, ⟨5, .data⟩], none⟩) (v := ?_) rfl (by kernel_rfl) (by kernel_rfl) (by kernel_rfl) (fun _ _ _ h => h) (Or.inl ⟨by kernel_rfl, ?_⟩) hS ?_
   rotate_left
   · intro w hSw; (try dsimp only at hSw); go_simp; (try with_reducible rfl)
   try go_frame
   refine wpAnyH_ready (rs := [7]) (by kernel_rfl) (by simp) ?_
   refine AllReadyH.cons (o := ⟨some 14, .box 45 (.tmp 13), 41, "state.go:14", #[⟨6, .data⟩], none⟩) rfl (fun K hK => ?_) AllReadyH.nil
   go_simp
   refine hK.out _ _ trivial (fun hS => ?_)
   try go_frame
   clear hK K
   refine wpAnyH_take (i := 8) (oi := ⟨some 5, .assign (.tmp 14), 41, "state.go:14", #[⟨7, .data⟩, ⟨0, .phase⟩, ⟨1, .phase⟩, ⟨2, .phase⟩, ⟨3, .phase⟩, ⟨4, .phase⟩, ⟨5, .phase⟩, ⟨6, .phase⟩, ⟨7, .phase⟩], none⟩) (v := ?_) rfl (by kernel_rfl) (by kernel_rfl) (by kernel_rfl) (fun _ _ _ h => h) (Or.inl ⟨by kernel_rfl, ?_⟩) hS ?_
   rotate_left
   · intro w hSw; (try dsimp only at hSw); go_simp; (try with_reducible rfl)
   try go_frame
   refine wpAnyH_done (by kernel_rfl) ?_ _
   clear hS
   obtain ⟨Ss, hSs⟩ : ∃ x, x = w3.heap.size := ⟨_, rfl⟩
   obtain ⟨W, hW⟩ : ∃ W, W = w3.alloc (.cells #[.int .i64 0, .slice (some ⟨gp, 0, none⟩) n n, .slice (some ⟨gv, 0, none⟩) n n, .slice (some ⟨gm, 0, none⟩) n n] 45) := ⟨_, rfl⟩
   have ba : Below w3.heap.size w3 W := by rw [hW]; exact (Below.refl _ _).alloc (Nat.le_refl _) _
   have S4 : Hid (W.heap[Ss]? = some (.cells #[.int .i64 0, .slice (some ⟨gp, 0, none⟩) n n, .slice (some ⟨gv, 0, none⟩) n n, .slice (some ⟨gm, 0, none⟩) n n] 45 (0, 0))) := by show _ = _; rw [hW, hSs]; exact heap_alloc_new w3 _
   have P4 : Hid (W.heap[gp]? = some (.cells (u32s (List.replicate n 0)) 29 (0, 0))) := (ba.block _ (lt_of_heap Hp3.out)).trans Hp3.out
   have V4 : Hid (W.heap[gv]? = some (.cells (u32s (List.replicate n 0)) 29 (0, 0))) := (ba.block _ (lt_of_heap Hv3.out)).trans Hv3.out
   have M4 : Hid (W.heap[gm]? = some (.cells (u32s (List.replicate n 0)) 29 (0, 0))) := (ba.block _ (lt_of_heap Hm3.out)).trans Hm3.out
   have B4 : Hid (Below w.heap.size w W) := B3.out.trans (ba.mono B3.out.size)
   have NS : Hid (Ss ≠ gp ∧ Ss ≠ gv ∧ Ss ≠ gm) := by
    have a1 := lt_of_heap Hp3.out; have a2 := lt_of_heap Hv3.out; have a3 := lt_of_heap Hm3.out
    exact ⟨by omega, by omega, by omega⟩
   have GS : Hid (w.heap.size ≤ Ss) := by show _ ≤ _; rw [hSs]; exact B3.out.size
   have sz : W.cell? ⟨Ss, 1, none⟩ = some (.slice (some ⟨gp, 0, none⟩) n n) := cell_of_block S4.out 1
   rw [← hSs, ← hW]
   clear hSs hW ba Hp1 Hp2 Hp3 Hm2 Hm3 Hv3 B1 B2 B3
   go_wp2
   clear sz
   go_loopw [20] (fun iv wr => ∃ i : Nat, i ≤ n ∧ iv = .int .i64 i ∧ ∃ l : List Int, Hid (l.length = n) ∧ Hid (∀ k, k < i → l.getD k 0 = F k) ∧ Hid (wr.heap[gp]? = some (.cells (u32s l) 29 (0, 0))) ∧ Hid (But (fun k => k = gp) W wr)) (fun iv _ => n - (intOf iv).toNat)
   case atStart => exact ⟨0, by omega, rfl, _, List.length_replicate, fun k hk => absurd hk (by omega), P4.out, But.refl _ _⟩
   case round =>
    clear P4
    obtain ⟨i, hi, rfl, l, LL, LI, HL, UW⟩ := hrel
    by_cases hlt : i < n
    · have s1 : wr.cell? ⟨Ss, 1, none⟩ = some (.slice (some ⟨gp, 0, none⟩) n n) := (UW.out.cell (lt_of_heap S4.out) NS.out.1 1).trans (cell_of_block S4.out 1)
      have X1 : Hid (∀ X, Calls Tryz.prog 54 #[.int .u32 seed, .int .i64 (i : Int)] X fun e w' => e = .returned (.int .u32 (F i)) ∧ w' = X) := fun X => FC.out X i hlt
      obtain ⟨fv, hfv⟩ : ∃ v, v = F i := ⟨_, rfl⟩
      have FV : Hid _ := hfv
      rw [← hfv] at X1
      have ai : wr.cell? ⟨gp, i, none⟩ = some (.int .u32 (l.getD i 0)) := (cell_of_block HL.out _).trans (u32s_at l i (by rw [LL.out]; exact hlt))
      have fi : wr.frozen? ⟨gp, i, none⟩ = false := unfrozen_of_block HL.out _
      have U5 : Hid (But (fun k => k = gp) W (wr.setCell ⟨gp, i, none⟩ (.int .u32 fv))) := UW.out.trans (But.set _ gp i _ rfl)
      have K5 : Hid ((wr.setCell ⟨gp, i, none⟩ (.int .u32 fv)).cell? ⟨Ss, 1, none⟩ = some (.slice (some ⟨gp, 0, none⟩) n n)) := (U5.out.cell (lt_of_heap S4.out) NS.out.1 1).trans (cell_of_block S4.out 1)
      have il : (i : Int) < (n : Int) := by omega
      have i0 : (0 : Int) ≤ (i : Int) := by omega
      clear hfv
      go_upto_region 5 with fail
      go_region_held3 (fun w' => w'.cell? ⟨Ss, 1, none⟩ = some (.slice (some ⟨gp, 0, none⟩) n n)) (first | exact s1 | exact K5.out) (first
       | (go_at_call 54; refine (X1.out _).mono ?_; rintro e w6 ⟨rfl, hw'⟩; subst w6))
      go_wp2
      go_roundw
      case rel =>
       refine ⟨i + 1, by omega, by go_num, l.set i fv, ?_, fun k hk => ?_, ?_, U5.out.trans (But.below ((Below.refl _ _).drew))⟩
       · show _ = _; rw [List.length_set]; exact LL.out
       · rw [getD_set]
         by_cases e : i = k
         · rw [if_pos ⟨e, by rw [LL.out]; exact hlt⟩, FV.out, e]
         · rw [if_neg (fun h => e h.1)]; exact LI.out k (by omega)
       · show (wr.setCell ⟨gp, i, none⟩ (.int .u32 fv)).heap[gp]? = _; rw [heap_set _ gp i _ _ 29 _ HL.out, u32s_set]
      case measure => simp [intOf]; omega
    · have hie : n = i := by omega
      have R : Hid (wr.heap[gp]? = some (.cells (u32s ((List.range n).map F)) 29 (0, 0))) := by
       show _ = _
       rw [HL.out, list_of l n F LL.out fun k hk => LI.out k (by omega)]
      clear hie
      go_wp2
      go_ret
      refine ⟨⟨Ss, gp, gv, gm, 45⟩, ⟨NS.out.1, NS.out.2.1, NS.out.2.2, Npv.out, Npm.out, Nvm.out⟩, ?_, rfl, ⟨⟨_, (UW.out.block _ (lt_of_heap S4.out) NS.out.1).trans S4.out, rfl, rfl, rfl, rfl⟩, R.out, (UW.out.block _ (lt_of_heap V4.out) Nvp.out).trans V4.out, (UW.out.block _ (lt_of_heap M4.out) Nmp.out).trans M4.out, by simp, List.length_replicate, List.length_replicate⟩, ⟨UW.out.os.trans B4.out.os, UW.out.tape.trans B4.out.tape, UW.out.output.trans B4.out.output, Nat.le_trans B4.out.size UW.out.size, fun k hk => (UW.out.block k (Nat.lt_of_lt_of_le hk B4.out.size) (by have := Gp1.out; omega)).trans (B4.out.block k hk)⟩⟩
      rintro k (e | e | e | e)
      · rw [e]; exact GS.out
      · rw [e]; exact Gp1.out
      · rw [e]; exact Gv1.out
      · rw [e]; exact Gm1.out
 refine AllReadyH.cons (o := ⟨some 10, .makeSlice 43 (.tmp 9) (.tmp 9), 43, "state.go:14", #[⟨2, .data⟩, ⟨2, .data⟩], none⟩) rfl (fun K hK => ?_) ?_
 · skip
   refine Tryz.step_make rfl _ _ rfl n rfl rfl n4 (fun gv w1 hv lv bv => ?_)
   have B1 : Hid (Below w.heap.size w w1) := ((Below.refl _ _).drew).trans bv
   have Gv1 : Hid (w.heap.size ≤ gv) := lv
   have Hv1 : Hid _ := hv
   clear hv lv bv
   refine hK.out _ _ trivial (fun hS => ?_)
   try go_frame
   clear hK K
   refine wpAnyH_ready (rs := [1, 5]) (by kernel_rfl) (by simp) ?_
   refine AllReadyH.cons (o := ⟨some 8, .makeSlice 43 (.tmp 7) (.tmp 7), 43, "state.go:14", #[⟨0, .data⟩, ⟨0, .data⟩], none⟩) rfl (fun K hK => ?_) ?_
   · skip
     refine Tryz.step_make rfl _ _ rfl n rfl rfl n4 (fun gp w2 hp lp bp => ?_)
     have B2 : Hid (Below w.heap.size w w2) := B1.out.trans (bp.mono B1.out.size)
     have Gp1 : Hid (w.heap.size ≤ gp) := Nat.le_trans B1.out.size lp
     have Hp2 : Hid _ := hp
     have Hv2 : Hid (w2.heap[gv]? = some (.cells (u32s (List.replicate n 0)) 29 (0, 0))) := (bp.block _ (lt_of_heap Hv1.out)).trans Hv1.out
     have Nvp : Hid (gv ≠ gp) := by have := lt_of_heap Hv1.out; show ¬ _; omega
     have Npv : Hid (gp ≠ gv) := by have := lt_of_heap Hv1.out; show ¬ _; omega
     clear hp lp bp
     refine hK.out _ _ trivial (fun hS => ?_)
     try go_frame
     clear hK K
     refine wpAnyH_ready (rs := [5]) (by kernel_rfl) (by simp) ?_
     refine AllReadyH.cons (o := ⟨some 12, .makeSlice 43 (.tmp 11) (.tmp 11), 43, "state.go:14", #[⟨4, .data⟩, ⟨4, .data⟩], none⟩) rfl (fun K hK => ?_) AllReadyH.nil
     refine Tryz.step_make rfl _ _ rfl n rfl rfl n4 (fun gm w3 hm lm bm => ?_)
     have B3 : Hid (Below w.heap.size w w3) := B2.out.trans (bm.mono B2.out.size)
     have Gm1 : Hid (w.heap.size ≤ gm) := Nat.le_trans B2.out.size lm
     have Hm3 : Hid _ := hm
     have Hv3 : Hid (w3.heap[gv]? = some (.cells (u32s (List.replicate n 0)) 29 (0, 0))) := (bm.block _ (lt_of_heap Hv2.out)).trans Hv2.out
     have Nvm : Hid (gv ≠ gm) := by have := lt_of_heap Hv2.out; show ¬ _; omega
     have Nmv : Hid (gm ≠ gv) := by have := lt_of_heap Hv2.out; show ¬ _; omega
     have Hp3 : Hid (w3.heap[gp]? = some (.cells (u32s (List.replicate n 0)) 29 (0, 0))) := (bm.block _ (lt_of_heap Hp2.out)).trans Hp2.out
     have Npm : Hid (gp ≠ gm) := by have := lt_of_heap Hp2.out; show ¬ _; omega
     have Nmp : Hid (gm ≠ gp) := by have := lt_of_heap Hp2.out; show ¬ _; omega
     clear hm lm bm
     refine hK.out _ _ trivial (fun hS => ?_)
     try go_frame
     clear hK K
     refine wpAnyH_take (i := 6) (oi := ⟨some 13, .build 45 #[(1, .tmp 8), (2, .tmp 10), (3, .tmp 12)], 45, "state.go:14", #[⟨1, .data⟩, ⟨3, .data⟩, ⟨5, .data⟩], none⟩) (v := ?_) rfl (by kernel_rfl) (by kernel_rfl) (by kernel_rfl) (fun _ _ _ h => h) (Or.inl ⟨by kernel_rfl, ?_⟩) hS ?_
     rotate_left
     · intro w hSw; (try dsimp only at hSw); go_simp; (try with_reducible rfl)
     try go_frame
     refine wpAnyH_ready (rs := [7]) (by kernel_rfl) (by simp) ?_
     refine AllReadyH.cons (o := ⟨some 14, .box 45 (.tmp 13), 41, "state.go:14", #[⟨6, .data⟩], none⟩) rfl (fun K hK => ?_) AllReadyH.nil
     go_simp
     refine hK.out _ _ trivial (fun hS => ?_)
     try go_frame
     clear hK K
     refine wpAnyH_take (i := 8) (oi := ⟨some 5, .assign (.tmp 14), 41, "state.go:14", #[⟨7, .data⟩, ⟨0, .phase⟩, ⟨1, .phase⟩, ⟨2, .phase⟩, ⟨3, .phase⟩, ⟨4, .phase⟩, ⟨5, .phase⟩, ⟨6, .phase⟩, ⟨7, .phase⟩], none⟩) (v := ?_) rfl (by kernel_rfl) (by kernel_rfl) (by kernel_rfl) (fun _ _ _ h => h) (Or.inl ⟨by kernel_rfl, ?_⟩) hS ?_
     rotate_left
     · intro w hSw; (try dsimp only at hSw); go_simp; (try with_reducible rfl)
     try go_frame
     refine wpAnyH_done (by kernel_rfl) ?_ _
     clear hS
     obtain ⟨Ss, hSs⟩ : ∃ x, x = w3.heap.size := ⟨_, rfl⟩
     obtain ⟨W, hW⟩ : ∃ W, W = w3.alloc (.cells #[.int .i64 0, .slice (some ⟨gp, 0, none⟩) n n, .slice (some ⟨gv, 0, none⟩) n n, .slice (some ⟨gm, 0, none⟩) n n] 45) := ⟨_, rfl⟩
     have ba : Below w3.heap.size w3 W := by rw [hW]; exact (Below.refl _ _).alloc (Nat.le_refl _) _
     have S4 : Hid (W.heap[Ss]? = some (.cells #[.int .i64 0, .slice (some ⟨gp, 0, none⟩) n n, .slice (some ⟨gv, 0, none⟩) n n, .slice (some ⟨gm, 0, none⟩) n n] 45 (0, 0))) := by show _ = _; rw [hW, hSs]; exact heap_alloc_new w3 _
     have P4 : Hid (W.heap[gp]? = some (.cells (u32s (List.replicate n 0)) 29 (0, 0))) := (ba.block _ (lt_of_heap Hp3.out)).trans Hp3.out
     have V4 : Hid (W.heap[gv]? = some (.cells (u32s (List.replicate n 0)) 29 (0, 0))) := (ba.block _ (lt_of_heap Hv3.out)).trans Hv3.out
     have M4 : Hid (W.heap[gm]? = some (.cells (u32s (List.replicate n 0)) 29 (0, 0))) := (ba.block _ (lt_of_heap Hm3.out)).trans Hm3.out
     have B4 : Hid (Below w.heap.size w W) := B3.out.trans (ba.mono B3.out.size)
     have NS : Hid (Ss ≠ gp ∧ Ss ≠ gv ∧ Ss ≠ gm) := by
      have a1 := lt_of_heap Hp3.out; have a2 := lt_of_heap Hv3.out; have a3 := lt_of_heap Hm3.out
      exact ⟨by omega, by omega, by omega⟩
     have GS : Hid (w.heap.size ≤ Ss) := by show _ ≤ _; rw [hSs]; exact B3.out.size
     have sz : W.cell? ⟨Ss, 1, none⟩ = some (.slice (some ⟨gp, 0, none⟩) n n) := cell_of_block S4.out 1
     rw [← hSs, ← hW]
     clear hSs hW ba Hv1 Hv2 Hv3 Hp2 Hp3 Hm3 B1 B2 B3
     go_wp2
     clear sz
     go_loopw [20] (fun iv wr => ∃ i : Nat, i ≤ n ∧ iv = .int .i64 i ∧ ∃ l : List Int, Hid (l.length = n) ∧ Hid (∀ k, k < i → l.getD k 0 = F k) ∧ Hid (wr.heap[gp]? = some (.cells (u32s l) 29 (0, 0))) ∧ Hid (But (fun k => k = gp) W wr)) (fun iv _ => n - (intOf iv).toNat)
     case atStart => exact ⟨0, by omega, rfl, _, List.length_replicate, fun k hk => absurd hk (by omega), P4.out, But.refl _ _⟩
     case round =>
      clear P4
      obtain ⟨i, hi, rfl, l, LL, LI, HL, UW⟩ := hrel
      by_cases hlt : i < n
      · have s1 : wr.cell? ⟨Ss, 1, none⟩ = some (.slice (some ⟨gp, 0, none⟩) n n) := (UW.out.cell (lt_of_heap S4.out) NS.out.1 1).trans (cell_of_block S4.out 1)
        have X1 : Hid (∀ X, Calls Tryz.prog 54 #[.int .u32 seed, .int .i64 (i : Int)] X fun e w' => e = .returned (.int .u32 (F i)) ∧ w' = X) := fun X => FC.out X i hlt
        obtain ⟨fv, hfv⟩ : ∃ v, v = F i := ⟨_, rfl⟩
        have FV : Hid _ := hfv
        rw [← hfv] at X1
        have ai : wr.cell? ⟨gp, i, none⟩ = some (.int .u32 (l.getD i 0)) := (cell_of_block HL.out _).trans (u32s_at l i (by rw [LL.out]; exact hlt))
        have fi : wr.frozen? ⟨gp, i, none⟩ = false := unfrozen_of_block HL.out _
        have U5 : Hid (But (fun k => k = gp) W (wr.setCell ⟨gp, i, none⟩ (.int .u32 fv))) := UW.out.trans (But.set _ gp i _ rfl)
        have K5 : Hid ((wr.setCell ⟨gp, i, none⟩ (.int .u32 fv)).cell? ⟨Ss, 1, none⟩ = some (.slice (some ⟨gp, 0, none⟩) n n)) := (U5.out.cell (lt_of_heap S4.out) NS.out.1 1).trans (cell_of_block S4.out 1)
        have il : (i : Int) < (n : Int) := by omega
        have i0 : (0 : Int) ≤ (i : Int) := by omega
        clear hfv
        go_upto_region 5 with fail
        go_region_held3 (fun w' => w'.cell? ⟨Ss, 1, none⟩ = some (.slice (some ⟨gp, 0, none⟩) n n)) (first | exact s1 | exact K5.out) (first
         | (go_at_call 54; refine (X1.out _).mono ?_; rintro e w6 ⟨rfl, hw'⟩; subst w6))
        go_wp2
        go_roundw
        case rel =>
         refine ⟨i + 1, by omega, by go_num, l.set i fv, ?_, fun k hk => ?_, ?_, U5.out.trans (But.below ((Below.refl _ _).drew))⟩
         · show _ = _; rw [List.length_set]; exact LL.out
         · rw [getD_set]
           by_cases e : i = k
           · rw [if_pos ⟨e, by rw [LL.out]; exact hlt⟩, FV.out, e]
           · rw [if_neg (fun h => e h.1)]; exact LI.out k (by omega)
         · show (wr.setCell ⟨gp, i, none⟩ (.int .u32 fv)).heap[gp]? = _; rw [heap_set _ gp i _ _ 29 _ HL.out, u32s_set]
        case measure => simp [intOf]; omega
      · have hie : n = i := by omega
        have R : Hid (wr.heap[gp]? = some (.cells (u32s ((List.range n).map F)) 29 (0, 0))) := by
         show _ = _
         rw [HL.out, list_of l n F LL.out fun k hk => LI.out k (by omega)]
        clear hie
        go_wp2
        go_ret
        refine ⟨⟨Ss, gp, gv, gm, 45⟩, ⟨NS.out.1, NS.out.2.1, NS.out.2.2, Npv.out, Npm.out, Nvm.out⟩, ?_, rfl, ⟨⟨_, (UW.out.block _ (lt_of_heap S4.out) NS.out.1).trans S4.out, rfl, rfl, rfl, rfl⟩, R.out, (UW.out.block _ (lt_of_heap V4.out) Nvp.out).trans V4.out, (UW.out.block _ (lt_of_heap M4.out) Nmp.out).trans M4.out, by simp, List.length_replicate, List.length_replicate⟩, ⟨UW.out.os.trans B4.out.os, UW.out.tape.trans B4.out.tape, UW.out.output.trans B4.out.output, Nat.le_trans B4.out.size UW.out.size, fun k hk => (UW.out.block k (Nat.lt_of_lt_of_le hk B4.out.size) (by have := Gp1.out; omega)).trans (B4.out.block k hk)⟩⟩
        rintro k (e | e | e | e)
        · rw [e]; exact GS.out
        · rw [e]; exact Gp1.out
        · rw [e]; exact Gv1.out
        · rw [e]; exact Gm1.out
   refine AllReadyH.cons (o := ⟨some 12, .makeSlice 43 (.tmp 11) (.tmp 11), 43, "state.go:14", #[⟨4, .data⟩, ⟨4, .data⟩], none⟩) rfl (fun K hK => ?_) AllReadyH.nil
   refine Tryz.step_make rfl _ _ rfl n rfl rfl n4 (fun gm w2 hm lm bm => ?_)
   have B2 : Hid (Below w.heap.size w w2) := B1.out.trans (bm.mono B1.out.size)
   have Gm1 : Hid (w.heap.size ≤ gm) := Nat.le_trans B1.out.size lm
   have Hm2 : Hid _ := hm
   have Hv2 : Hid (w2.heap[gv]? = some (.cells (u32s (List.replicate n 0)) 29 (0, 0))) := (bm.block _ (lt_of_heap Hv1.out)).trans Hv1.out
   have Nvm : Hid (gv ≠ gm) := by have := lt_of_heap Hv1.out; show ¬ _; omega
   have Nmv : Hid (gm ≠ gv) := by have := lt_of_heap Hv1.out; show ¬ _; omega
   clear hm lm bm
   refine hK.out _ _ trivial (fun hS => ?_)
   try go_frame
   clear hK K
   refine wpAnyH_ready (rs := [1]) (by kernel_rfl) (by simp) ?_
   refine AllReadyH.cons (o := ⟨some 8, .makeSlice 43 (.tmp 7) (.tmp 7), 43, "state.go:14", #[⟨0, .data⟩, ⟨0, .data⟩], none⟩) rfl (fun K hK => ?_) AllReadyH.nil
   refine Tryz.step_make rfl _ _ rfl n rfl rfl n4 (fun gp w3 hp lp bp => ?_)
   have B3 : Hid (Below w.heap.size w w3) := B2.out.trans (bp.mono B2.out.size)
   have Gp1 : Hid (w.heap.size ≤ gp) := Nat.le_trans B2.out.size lp
   have Hp3 : Hid _ := hp
   have Hv3 : Hid (w3.heap[gv]? = some (.cells (u32s (List.replicate n 0)) 29 (0, 0))) := (bp.block _ (lt_of_heap Hv2.out)).trans Hv2.out
   have Nvp : Hid (gv ≠ gp) := by have := lt_of_heap Hv2.out; show ¬ _; omega
   have Npv : Hid (gp ≠ gv) := by have := lt_of_heap Hv2.out; show ¬ _; omega
   have Hm3 : Hid (w3.heap[gm]? = some (.cells (u32s (List.replicate n 0)) 29 (0, 0))) := (bp.block _ (lt_of_heap Hm2.out)).trans Hm2.out
   have Nmp : Hid (gm ≠ gp) := by have := lt_of_heap Hm2.out; show ¬ _; omega
   have Npm : Hid (gp ≠ gm) := by have := lt_of_heap Hm2.out; show ¬ _; omega
   clear hp lp bp
   refine hK.out _ _ trivial (fun hS => ?_)
   try go_frame
   clear hK K
   refine wpAnyH_take (i := 6) (oi := ⟨some 13, .build 45 #[(1, .tmp 8), (2, .tmp 10), (3, .tmp 12)], 45, "state.go:14", #[⟨1, .data⟩, ⟨3, .data⟩, ⟨5, .data⟩], none⟩) (v := ?_) rfl (by kernel_rfl) (by kernel_rfl) (by kernel_rfl) (fun _ _ _ h => h) (Or.inl ⟨by kernel_rfl, ?_⟩) hS ?_
   rotate_left
   · intro w hSw; (try dsimp only at hSw); go_simp; (try with_reducible rfl)
   try go_frame
   refine wpAnyH_ready (rs := [7]) (by kernel_rfl) (by simp) ?_
   refine AllReadyH.cons (o := ⟨some 14, .box 45 (.tmp 13), 41, "state.go:14", #[⟨6, .data⟩], none⟩) rfl (fun K hK => ?_) AllReadyH.nil
   go_simp
   refine hK.out _ _ trivial (fun hS => ?_)
   try go_frame
   clear hK K
   refine wpAnyH_take (i := 8) (oi := ⟨some 5, .assign (.tmp 14), 41, "state.go:14", #[⟨7, .data⟩, ⟨0, .phase⟩, ⟨1, .phase⟩, ⟨2, .phase⟩, ⟨3, .phase⟩, ⟨4, .phase⟩, ⟨5, .phase⟩, ⟨6, .phase⟩, ⟨7, .phase⟩], none⟩) (v := ?_) rfl (by kernel_rfl) (by kernel_rfl) (by kernel_rfl) (fun _ _ _ h => h) (Or.inl ⟨by kernel_rfl, ?_⟩) hS ?_
   rotate_left
   · intro w hSw; (try dsimp only at hSw); go_simp; (try with_reducible rfl)
   try go_frame
   refine wpAnyH_done (by kernel_rfl) ?_ _
   clear hS
   obtain ⟨Ss, hSs⟩ : ∃ x, x = w3.heap.size := ⟨_, rfl⟩
   obtain ⟨W, hW⟩ : ∃ W, W = w3.alloc (.cells #[.int .i64 0, .slice (some ⟨gp, 0, none⟩) n n, .slice (some ⟨gv, 0, none⟩) n n, .slice (some ⟨gm, 0, none⟩) n n] 45) := ⟨_, rfl⟩
   have ba : Below w3.heap.size w3 W := by rw [hW]; exact (Below.refl _ _).alloc (Nat.le_refl _) _
   have S4 : Hid (W.heap[Ss]? = some (.cells #[.int .i64 0, .slice (some ⟨gp, 0, none⟩) n n, .slice (some ⟨gv, 0, none⟩) n n, .slice (some ⟨gm, 0, none⟩) n n] 45 (0, 0))) := by show _ = _; rw [hW, hSs]; exact heap_alloc_new w3 _
   have P4 : Hid (W.heap[gp]? = some (.cells (u32s (List.replicate n 0)) 29 (0, 0))) := (ba.block _ (lt_of_heap Hp3.out)).trans Hp3.out
   have V4 : Hid (W.heap[gv]? = some (.cells (u32s (List.replicate n 0)) 29 (0, 0))) := (ba.block _ (lt_of_heap Hv3.out)).trans Hv3.out
   have M4 : Hid (W.heap[gm]? = some (.cells (u32s (List.replicate n 0)) 29 (0, 0))) := (ba.block _ (lt_of_heap Hm3.out)).trans Hm3.out
   have B4 : Hid (Below w.heap.size w W) := B3.out.trans (ba.mono B3.out.size)
   have NS : Hid (Ss ≠ gp ∧ Ss ≠ gv ∧ Ss ≠ gm) := by
    have a1 := lt_of_heap Hp3.out; have a2 := lt_of_heap Hv3.out; have a3 := lt_of_heap Hm3.out
    exact ⟨by omega, by omega, by omega⟩
   have GS : Hid (w.heap.size ≤ Ss) := by show _ ≤ _; rw [hSs]; exact B3.out.size
   have sz : W.cell? ⟨Ss, 1, none⟩ = some (.slice (some ⟨gp, 0, none⟩) n n) := cell_of_block S4.out 1
   rw [← hSs, ← hW]
   clear hSs hW ba Hv1 Hv2 Hv3 Hm2 Hm3 Hp3 B1 B2 B3
   go_wp2
   clear sz
   go_loopw [20] (fun iv wr => ∃ i : Nat, i ≤ n ∧ iv = .int .i64 i ∧ ∃ l : List Int, Hid (l.length = n) ∧ Hid (∀ k, k < i → l.getD k 0 = F k) ∧ Hid (wr.heap[gp]? = some (.cells (u32s l) 29 (0, 0))) ∧ Hid (But (fun k => k = gp) W wr)) (fun iv _ => n - (intOf iv).toNat)
   case atStart => exact ⟨0, by omega, rfl, _, List.length_replicate, fun k hk => absurd hk (by omega), P4.out, But.refl _ _⟩
   case round =>
    clear P4
    obtain ⟨i, hi, rfl, l, LL, LI, HL, UW⟩ := hrel
    by_cases hlt : i < n
    · have s1 : wr.cell? ⟨Ss, 1, none⟩ = some (.slice (some ⟨gp, 0, none⟩) n n) := (UW.out.cell (lt_of_heap S4.out) NS.out.1 1).trans (cell_of_block S4.out 1)
      have X1 : Hid (∀ X, Calls Tryz.prog 54 #[.int .u32 seed, .int .i64 (i : Int)] X fun e w' => e = .returned (.int .u32 (F i)) ∧ w' = X) := fun X => FC.out X i hlt
      obtain ⟨fv, hfv⟩ : ∃ v, v = F i := ⟨_, rfl⟩
      have FV : Hid _ := hfv
      rw [← hfv] at X1
      have ai : wr.cell? ⟨gp, i, none⟩ = some (.int .u32 (l.getD i 0)) := (cell_of_block HL.out _).trans (u32s_at l i (by rw [LL.out]; exact hlt))
      have fi : wr.frozen? ⟨gp, i, none⟩ = false := unfrozen_of_block HL.out _
      have U5 : Hid (But (fun k => k = gp) W (wr.setCell ⟨gp, i, none⟩ (.int .u32 fv))) := UW.out.trans (But.set _ gp i _ rfl)
      have K5 : Hid ((wr.setCell ⟨gp, i, none⟩ (.int .u32 fv)).cell? ⟨Ss, 1, none⟩ = some (.slice (some ⟨gp, 0, none⟩) n n)) := (U5.out.cell (lt_of_heap S4.out) NS.out.1 1).trans (cell_of_block S4.out 1)
      have il : (i : Int) < (n : Int) := by omega
      have i0 : (0 : Int) ≤ (i : Int) := by omega
      clear hfv
      go_upto_region 5 with fail
      go_region_held3 (fun w' => w'.cell? ⟨Ss, 1, none⟩ = some (.slice (some ⟨gp, 0, none⟩) n n)) (first | exact s1 | exact K5.out) (first
       | (go_at_call 54; refine (X1.out _).mono ?_; rintro e w6 ⟨rfl, hw'⟩; subst w6))
      go_wp2
      go_roundw
      case rel =>
       refine ⟨i + 1, by omega, by go_num, l.set i fv, ?_, fun k hk => ?_, ?_, U5.out.trans (But.below ((Below.refl _ _).drew))⟩
       · show _ = _; rw [List.length_set]; exact LL.out
       · rw [getD_set]
         by_cases e : i = k
         · rw [if_pos ⟨e, by rw [LL.out]; exact hlt⟩, FV.out, e]
         · rw [if_neg (fun h => e h.1)]; exact LI.out k (by omega)
       · show (wr.setCell ⟨gp, i, none⟩ (.int .u32 fv)).heap[gp]? = _; rw [heap_set _ gp i _ _ 29 _ HL.out, u32s_set]
      case measure => simp [intOf]; omega
    · have hie : n = i := by omega
      have R : Hid (wr.heap[gp]? = some (.cells (u32s ((List.range n).map F)) 29 (0, 0))) := by
       show _ = _
       rw [HL.out, list_of l n F LL.out fun k hk => LI.out k (by omega)]
      clear hie
      go_wp2
      go_ret
      refine ⟨⟨Ss, gp, gv, gm, 45⟩, ⟨NS.out.1, NS.out.2.1, NS.out.2.2, Npv.out, Npm.out, Nvm.out⟩, ?_, rfl, ⟨⟨_, (UW.out.block _ (lt_of_heap S4.out) NS.out.1).trans S4.out, rfl, rfl, rfl, rfl⟩, R.out, (UW.out.block _ (lt_of_heap V4.out) Nvp.out).trans V4.out, (UW.out.block _ (lt_of_heap M4.out) Nmp.out).trans M4.out, by simp, List.length_replicate, List.length_replicate⟩, ⟨UW.out.os.trans B4.out.os, UW.out.tape.trans B4.out.tape, UW.out.output.trans B4.out.output, Nat.le_trans B4.out.size UW.out.size, fun k hk => (UW.out.block k (Nat.lt_of_lt_of_le hk B4.out.size) (by have := Gp1.out; omega)).trans (B4.out.block k hk)⟩⟩
      rintro k (e | e | e | e)
      · rw [e]; exact GS.out
      · rw [e]; exact Gp1.out
      · rw [e]; exact Gv1.out
      · rw [e]; exact Gm1.out
 refine AllReadyH.cons (o := ⟨some 12, .makeSlice 43 (.tmp 11) (.tmp 11), 43, "state.go:14", #[⟨4, .data⟩, ⟨4, .data⟩], none⟩) rfl (fun K hK => ?_) AllReadyH.nil
 refine Tryz.step_make rfl _ _ rfl n rfl rfl n4 (fun gm w1 hm lm bm => ?_)
 have B1 : Hid (Below w.heap.size w w1) := ((Below.refl _ _).drew).trans bm
 have Gm1 : Hid (w.heap.size ≤ gm) := lm
 have Hm1 : Hid _ := hm
 clear hm lm bm
 refine hK.out _ _ trivial (fun hS => ?_)
 try go_frame
 clear hK K
 refine wpAnyH_ready (rs := [1, 3]) (by kernel_rfl) (by simp) ?_
 refine AllReadyH.cons (o := ⟨some 8, .makeSlice 43 (.tmp 7) (.tmp 7), 43, "state.go:14", #[⟨0, .data⟩, ⟨0, .data⟩], none⟩) rfl (fun K hK => ?_) ?_
 · skip
   refine Tryz.step_make rfl _ _ rfl n rfl rfl n4 (fun gp w2 hp lp bp => ?_)
   have B2 : Hid (Below w.heap.size w w2) := B1.out.trans (bp.mono B1.out.size)
   have Gp1 : Hid (w.heap.size ≤ gp) := Nat.le_trans B1.out.size lp
   have Hp2 : Hid _ := hp
   have Hm2 : Hid (w2.heap[gm]? = some (.cells (u32s (List.replicate n 0)) 29 (0, 0))) := (bp.block _ (lt_of_heap Hm1.out)).trans Hm1.out
   have Nmp : Hid (gm ≠ gp) := by have := lt_of_heap Hm1.out; show ¬ _; omega
   have Npm : Hid (gp ≠ gm) := by have := lt_of_heap Hm1.out; show ¬ _; omega
   clear hp lp bp
   refine hK.out _ _ trivial (fun hS => ?_)
   try go_frame
   clear hK K
   refine wpAnyH_ready (rs := [3]) (by kernel_rfl) (by simp) ?_
   refine AllReadyH.cons (o := ⟨some 10, .makeSlice 43 (.tmp 9) (.tmp 9), 43, "state.go:14", #[⟨2, .data⟩, ⟨2, .data⟩], none⟩) rfl (fun K hK => ?_) AllReadyH.nil
   refine Tryz.step_make rfl _ _ rfl n rfl rfl n4 (fun gv w3 hv lv bv => ?_)
   have B3 : Hid (Below w.heap.size w w3) := B2.out.trans (bv.mono B2.out.size)
   have Gv1 : Hid (w.heap.size ≤ gv) := Nat.le_trans B2.out.size lv
   have Hv3 : Hid _ := hv
   have Hm3 : Hid (w3.heap[gm]? = some (.cells (u32s (List.replicate n 0)) 29 (0, 0))) := (bv.block _ (lt_of_heap Hm2.out)).trans Hm2.out
   have Nmv : Hid (gm ≠ gv) := by have := lt_of_heap Hm2.out; show ¬ _; omega
   have Nvm : Hid (gv ≠ gm) := by have := lt_of_heap Hm2.out; show ¬ _; omega
   have Hp3 : Hid (w3.heap[gp]? = some (.cells (u32s (List.replicate n 0)) 29 (0, 0))) := (bv.block _ (lt_of_heap Hp2.out)).trans Hp2.out
   have Npv : Hid (gp ≠ gv) := by have := lt_of_heap Hp2.out; show ¬ _; omega
   have Nvp : Hid (gv ≠ gp) := by have := lt_of_heap Hp2.out; show ¬ _; omega
   clear hv lv bv
   refine hK.out _ _ trivial (fun hS => ?_)
   try go_frame
   clear hK K
   refine wpAnyH_take (i := 6) (oi := ⟨some 13, .build 45 #[(1, .tmp 8), (2, .tmp 10), (3, .tmp 12)], 45, "state.go:14", #[⟨1, .data⟩, ⟨3, .data⟩, ⟨5, .data⟩], none⟩) (v := ?_) rfl (by kernel_rfl) (by kernel_rfl) (by kernel_rfl) (fun _ _ _ h => h) (Or.inl ⟨by kernel_rfl, ?_⟩) hS ?_
   rotate_left
   · intro w hSw; (try dsimp only at hSw); go_simp; (try with_reducible rfl)
   try go_frame
   refine wpAnyH_ready (rs := [7]) (by kernel_rfl) (by simp) ?_
   refine AllReadyH.cons (o := ⟨some 14, .box 45 (.tmp 13), 41, "state.go:14", #[⟨6, .data⟩], none⟩) rfl (fun K hK => ?_) AllReadyH.nil
   go_simp
   refine hK.out _ _ trivial (fun hS => ?_)
   try go_frame
   clear hK K
   refine wpAnyH_take (i := 8) (oi := ⟨some 5, .assign (.tmp 14), 41, "state.go:14", #[⟨7, .data⟩, ⟨0, .phase⟩, ⟨1, .phase⟩, ⟨2, .phase⟩, ⟨3, .phase⟩, ⟨4, .phase⟩, ⟨5, .phase⟩, ⟨6, .phase⟩, ⟨7, .phase⟩], none⟩) (v := ?_) rfl (by kernel_rfl) (by kernel_rfl) (by kernel_rfl) (fun _ _ _ h => h) (Or.inl ⟨by kernel_rfl, ?_⟩) hS ?_
   rotate_left
   · intro w hSw; (try dsimp only at hSw); go_simp; (try with_reducible rfl)
   try go_frame
   refine wpAnyH_done (by kernel_rfl) ?_ _
   clear hS
   obtain ⟨Ss, hSs⟩ : ∃ x, x = w3.heap.size := ⟨_, rfl⟩
   obtain ⟨W, hW⟩ : ∃ W, W = w3.alloc (.cells #[.int .i64 0, .slice (some ⟨gp, 0, none⟩) n n, .slice (some ⟨gv, 0, none⟩) n n, .slice (some ⟨gm, 0, none⟩) n n] 45) := ⟨_, rfl⟩
   have ba : Below w3.heap.size w3 W := by rw [hW]; exact (Below.refl _ _).alloc (Nat.le_refl _) _
   have S4 : Hid (W.heap[Ss]? = some (.cells #[.int .i64 0, .slice (some ⟨gp, 0, none⟩) n n, .slice (some ⟨gv, 0, none⟩) n n, .slice (some ⟨gm, 0, none⟩) n n] 45 (0, 0))) := by show _ = _; rw [hW, hSs]; exact heap_alloc_new w3 _
   have P4 : Hid (W.heap[gp]? = some (.cells (u32s (List.replicate n 0)) 29 (0, 0))) := (ba.block _ (lt_of_heap Hp3.out)).trans Hp3.out
   have V4 : Hid (W.heap[gv]? = some (.cells (u32s (List.replicate n 0)) 29 (0, 0))) := (ba.block _ (lt_of_heap Hv3.out)).trans Hv3.out
   have M4 : Hid (W.heap[gm]? = some (.cells (u32s (List.replicate n 0)) 29 (0, 0))) := (ba.block _ (lt_of_heap Hm3.out)).trans Hm3.out
   have B4 : Hid (Below w.heap.size w W) := B3.out.trans (ba.mono B3.out.size)
   have NS : Hid (Ss ≠ gp ∧ Ss ≠ gv ∧ Ss ≠ gm) := by
    have a1 := lt_of_heap Hp3.out; have a2 := lt_of_heap Hv3.out; have a3 := lt_of_heap Hm3.out
    exact ⟨by omega, by omega, by omega⟩
   have GS : Hid (w.heap.size ≤ Ss) := by show _ ≤ _; rw [hSs]; exact B3.out.size
   have sz : W.cell? ⟨Ss, 1, none⟩ = some (.slice (some ⟨gp, 0, none⟩) n n) := cell_of_block S4.out 1
   rw [← hSs, ← hW]
   clear hSs hW ba Hm1 Hm2 Hm3 Hp2 Hp3 Hv3 B1 B2 B3
   go_wp2
   clear sz
   go_loopw [20] (fun iv wr => ∃ i : Nat, i ≤ n ∧ iv = .int .i64 i ∧ ∃ l : List Int, Hid (l.length = n) ∧ Hid (∀ k, k < i → l.getD k 0 = F k) ∧ Hid (wr.heap[gp]? = some (.cells (u32s l) 29 (0, 0))) ∧ Hid (But (fun k => k = gp) W wr)) (fun iv _ => n - (intOf iv).toNat)
   case atStart => exact ⟨0, by omega, rfl, _, List.length_replicate, fun k hk => absurd hk (by omega), P4.out, But.refl _ _⟩
   case round =>
    clear P4
    obtain ⟨i, hi, rfl, l, LL, LI, HL, UW⟩ := hrel
    by_cases hlt : i < n
    · have s1 : wr.cell? ⟨Ss, 1, none⟩ = some (.slice (some ⟨gp, 0, none⟩) n n) := (UW.out.cell (lt_of_heap S4.out) NS.out.1 1).trans (cell_of_block S4.out 1)
      have X1 : Hid (∀ X, Calls Tryz.prog 54 #[.int .u32 seed, .int .i64 (i : Int)] X fun e w' => e = .returned (.int .u32 (F i)) ∧ w' = X) := fun X => FC.out X i hlt
      obtain ⟨fv, hfv⟩ : ∃ v, v = F i := ⟨_, rfl⟩
      have FV : Hid _ := hfv
      rw [← hfv] at X1
      have ai : wr.cell? ⟨gp, i, none⟩ = some (.int .u32 (l.getD i 0)) := (cell_of_block HL.out _).trans (u32s_at l i (by rw [LL.out]; exact hlt))
      have fi : wr.frozen? ⟨gp, i, none⟩ = false := unfrozen_of_block HL.out _
      have U5 : Hid (But (fun k => k = gp) W (wr.setCell ⟨gp, i, none⟩ (.int .u32 fv))) := UW.out.trans (But.set _ gp i _ rfl)
      have K5 : Hid ((wr.setCell ⟨gp, i, none⟩ (.int .u32 fv)).cell? ⟨Ss, 1, none⟩ = some (.slice (some ⟨gp, 0, none⟩) n n)) := (U5.out.cell (lt_of_heap S4.out) NS.out.1 1).trans (cell_of_block S4.out 1)
      have il : (i : Int) < (n : Int) := by omega
      have i0 : (0 : Int) ≤ (i : Int) := by omega
      clear hfv
      go_upto_region 5 with fail
      go_region_held3 (fun w' => w'.cell? ⟨Ss, 1, none⟩ = some (.slice (some ⟨gp, 0, none⟩) n n)) (first | exact s1 | exact K5.out) (first
       | (go_at_call 54; refine (X1.out _).mono ?_; rintro e w6 ⟨rfl, hw'⟩; subst w6))
      go_wp2
      go_roundw
      case rel =>
       refine ⟨i + 1, by omega, by go_num, l.set i fv, ?_, fun k hk => ?_, ?_, U5.out.trans (But.below ((Below.refl _ _).drew))⟩
       · show _ = _; rw [List.length_set]; exact LL.out
       · rw [getD_set]
         by_cases e : i = k
         · rw [if_pos ⟨e, by rw [LL.out]; exact hlt⟩, FV.out, e]
         · rw [if_neg (fun h => e h.1)]; exact LI.out k (by omega)
       · show (wr.setCell ⟨gp, i, none⟩ (.int .u32 fv)).heap[gp]? = _; rw [heap_set _ gp i _ _ 29 _ HL.out, u32s_set]
      case measure => simp [intOf]; omega
    · have hie : n = i := by omega
      have R : Hid (wr.heap[gp]? = some (.cells (u32s ((List.range n).map F)) 29 (0, 0))) := by
       show _ = _
       rw [HL.out, list_of l n F LL.out fun k hk => LI.out k (by omega)]
      clear hie
      go_wp2
      go_ret
      refine ⟨⟨Ss, gp, gv, gm, 45⟩, ⟨NS.out.1, NS.out.2.1, NS.out.2.2, Npv.out, Npm.out, Nvm.out⟩, ?_, rfl, ⟨⟨_, (UW.out.block _ (lt_of_heap S4.out) NS.out.1).trans S4.out, rfl, rfl, rfl, rfl⟩, R.out, (UW.out.block _ (lt_of_heap V4.out) Nvp.out).trans V4.out, (UW.out.block _ (lt_of_heap M4.out) Nmp.out).trans M4.out, by simp, List.length_replicate, List.length_replicate⟩, ⟨UW.out.os.trans B4.out.os, UW.out.tape.trans B4.out.tape, UW.out.output.trans B4.out.output, Nat.le_trans B4.out.size UW.out.size, fun k hk => (UW.out.block k (Nat.lt_of_lt_of_le hk B4.out.size) (by have := Gp1.out; omega)).trans (B4.out.block k hk)⟩⟩
      rintro k (e | e | e | e)
      · rw [e]; exact GS.out
      · rw [e]; exact Gp1.out
      · rw [e]; exact Gv1.out
      · rw [e]; exact Gm1.out
 refine AllReadyH.cons (o := ⟨some 10, .makeSlice 43 (.tmp 9) (.tmp 9), 43, "state.go:14", #[⟨2, .data⟩, ⟨2, .data⟩], none⟩) rfl (fun K hK => ?_) AllReadyH.nil
 refine Tryz.step_make rfl _ _ rfl n rfl rfl n4 (fun gv w2 hv lv bv => ?_)
 have B2 : Hid (Below w.heap.size w w2) := B1.out.trans (bv.mono B1.out.size)
 have Gv1 : Hid (w.heap.size ≤ gv) := Nat.le_trans B1.out.size lv
 have Hv2 : Hid _ := hv
 have Hm2 : Hid (w2.heap[gm]? = some (.cells (u32s (List.replicate n 0)) 29 (0, 0))) := (bv.block _ (lt_of_heap Hm1.out)).trans Hm1.out
 have Nmv : Hid (gm ≠ gv) := by have := lt_of_heap Hm1.out; show ¬ _; omega
 have Nvm : Hid (gv ≠ gm) := by have := lt_of_heap Hm1.out; show ¬ _; omega
 clear hv lv bv
 refine hK.out _ _ trivial (fun hS => ?_)
 try go_frame
 clear hK K
 refine wpAnyH_ready (rs := [1]) (by kernel_rfl) (by simp) ?_
 refine AllReadyH.cons (o := ⟨some 8, .makeSlice 43 (.tmp 7) (.tmp 7), 43, "state.go:14", #[⟨0, .data⟩, ⟨0, .data⟩], none⟩) rfl (fun K hK => ?_) AllReadyH.nil
 refine Tryz.step_make rfl _ _ rfl n rfl rfl n4 (fun gp w3 hp lp bp => ?_)
 have B3 : Hid (Below w.heap.size w w3) := B2.out.trans (bp.mono B2.out.size)
 have Gp1 : Hid (w.heap.size ≤ gp) := Nat.le_trans B2.out.size lp
 have Hp3 : Hid _ := hp
 have Hm3 : Hid (w3.heap[gm]? = some (.cells (u32s (List.replicate n 0)) 29 (0, 0))) := (bp.block _ (lt_of_heap Hm2.out)).trans Hm2.out
 have Nmp : Hid (gm ≠ gp) := by have := lt_of_heap Hm2.out; show ¬ _; omega
 have Npm : Hid (gp ≠ gm) := by have := lt_of_heap Hm2.out; show ¬ _; omega
 have Hv3 : Hid (w3.heap[gv]? = some (.cells (u32s (List.replicate n 0)) 29 (0, 0))) := (bp.block _ (lt_of_heap Hv2.out)).trans Hv2.out
 have Nvp : Hid (gv ≠ gp) := by have := lt_of_heap Hv2.out; show ¬ _; omega
 have Npv : Hid (gp ≠ gv) := by have := lt_of_heap Hv2.out; show ¬ _; omega
 clear hp lp bp
 refine hK.out _ _ trivial (fun hS => ?_)
 try go_frame
 clear hK K
 refine wpAnyH_take (i := 6) (oi := ⟨some 13, .build 45 #[(1, .tmp 8), (2, .tmp 10), (3, .tmp 12)], 45, "state.go:14", #[⟨1, .data⟩, ⟨3, .data⟩, ⟨5, .data⟩], none⟩) (v := ?_) rfl (by kernel_rfl) (by kernel_rfl) (by kernel_rfl) (fun _ _ _ h => h) (Or.inl ⟨by kernel_rfl, ?_⟩) hS ?_
 rotate_left
 · intro w hSw; (try dsimp only at hSw); go_simp; (try with_reducible rfl)
 try go_frame
 refine wpAnyH_ready (rs := [7]) (by kernel_rfl) (by simp) ?_
 refine AllReadyH.cons (o := ⟨some 14, .box 45 (.tmp 13), 41, "state.go:14", #[⟨6, .data⟩], none⟩) rfl (fun K hK => ?_) AllReadyH.nil
 go_simp
 refine hK.out _ _ trivial (fun hS => ?_)
 try go_frame
 clear hK K
 refine wpAnyH_take (i := 8) (oi := ⟨some 5, .assign (.tmp 14), 41, "state.go:14", #[⟨7, .data⟩, ⟨0, .phase⟩, ⟨1, .phase⟩, ⟨2, .phase⟩, ⟨3, .phase⟩, ⟨4, .phase⟩, ⟨5, .phase⟩, ⟨6, .phase⟩, ⟨7, .phase⟩], none⟩) (v := ?_) rfl (by kernel_rfl) (by kernel_rfl) (by kernel_rfl) (fun _ _ _ h => h) (Or.inl ⟨by kernel_rfl, ?_⟩) hS ?_
 rotate_left
 · intro w hSw; (try dsimp only at hSw); go_simp; (try with_reducible rfl)
 try go_frame
 refine wpAnyH_done (by kernel_rfl) ?_ _
 clear hS
 obtain ⟨Ss, hSs⟩ : ∃ x, x = w3.heap.size := ⟨_, rfl⟩
 obtain ⟨W, hW⟩ : ∃ W, W = w3.alloc (.cells #[.int .i64 0, .slice (some ⟨gp, 0, none⟩) n n, .slice (some ⟨gv, 0, none⟩) n n, .slice (some ⟨gm, 0, none⟩) n n] 45) := ⟨_, rfl⟩
 have ba : Below w3.heap.size w3 W := by rw [hW]; exact (Below.refl _ _).alloc (Nat.le_refl _) _
 have S4 : Hid (W.heap[Ss]? = some (.cells #[.int .i64 0, .slice (some ⟨gp, 0, none⟩) n n, .slice (some ⟨gv, 0, none⟩) n n, .slice (some ⟨gm, 0, none⟩) n n] 45 (0, 0))) := by show _ = _; rw [hW, hSs]; exact heap_alloc_new w3 _
 have P4 : Hid (W.heap[gp]? = some (.cells (u32s (List.replicate n 0)) 29 (0, 0))) := (ba.block _ (lt_of_heap Hp3.out)).trans Hp3.out
 have V4 : Hid (W.heap[gv]? = some (.cells (u32s (List.replicate n 0)) 29 (0, 0))) := (ba.block _ (lt_of_heap Hv3.out)).trans Hv3.out
 have M4 : Hid (W.heap[gm]? = some (.cells (u32s (List.replicate n 0)) 29 (0, 0))) := (ba.block _ (lt_of_heap Hm3.out)).trans Hm3.out
 have B4 : Hid (Below w.heap.size w W) := B3.out.trans (ba.mono B3.out.size)
 have NS : Hid (Ss ≠ gp ∧ Ss ≠ gv ∧ Ss ≠ gm) := by
  have a1 := lt_of_heap Hp3.out; have a2 := lt_of_heap Hv3.out; have a3 := lt_of_heap Hm3.out
  exact ⟨by omega, by omega, by omega⟩
 have GS : Hid (w.heap.size ≤ Ss) := by show _ ≤ _; rw [hSs]; exact B3.out.size
 have sz : W.cell? ⟨Ss, 1, none⟩ = some (.slice (some ⟨gp, 0, none⟩) n n) := cell_of_block S4.out 1
 rw [← hSs, ← hW]
 clear hSs hW ba Hm1 Hm2 Hm3 Hv2 Hv3 Hp3 B1 B2 B3
 go_wp2
 clear sz
 go_loopw [20] (fun iv wr => ∃ i : Nat, i ≤ n ∧ iv = .int .i64 i ∧ ∃ l : List Int, Hid (l.length = n) ∧ Hid (∀ k, k < i → l.getD k 0 = F k) ∧ Hid (wr.heap[gp]? = some (.cells (u32s l) 29 (0, 0))) ∧ Hid (But (fun k => k = gp) W wr)) (fun iv _ => n - (intOf iv).toNat)
 case atStart => exact ⟨0, by omega, rfl, _, List.length_replicate, fun k hk => absurd hk (by omega), P4.out, But.refl _ _⟩
 case round =>
  clear P4
  obtain ⟨i, hi, rfl, l, LL, LI, HL, UW⟩ := hrel
  by_cases hlt : i < n
  · have s1 : wr.cell? ⟨Ss, 1, none⟩ = some (.slice (some ⟨gp, 0, none⟩) n n) := (UW.out.cell (lt_of_heap S4.out) NS.out.1 1).trans (cell_of_block S4.out 1)
    have X1 : Hid (∀ X, Calls Tryz.prog 54 #[.int .u32 seed, .int .i64 (i : Int)] X fun e w' => e = .returned (.int .u32 (F i)) ∧ w' = X) := fun X => FC.out X i hlt
    obtain ⟨fv, hfv⟩ : ∃ v, v = F i := ⟨_, rfl⟩
    have FV : Hid _ := hfv
    rw [← hfv] at X1
    have ai : wr.cell? ⟨gp, i, none⟩ = some (.int .u32 (l.getD i 0)) := (cell_of_block HL.out _).trans (u32s_at l i (by rw [LL.out]; exact hlt))
    have fi : wr.frozen? ⟨gp, i, none⟩ = false := unfrozen_of_block HL.out _
    have U5 : Hid (But (fun k => k = gp) W (wr.setCell ⟨gp, i, none⟩ (.int .u32 fv))) := UW.out.trans (But.set _ gp i _ rfl)
    have K5 : Hid ((wr.setCell ⟨gp, i, none⟩ (.int .u32 fv)).cell? ⟨Ss, 1, none⟩ = some (.slice (some ⟨gp, 0, none⟩) n n)) := (U5.out.cell (lt_of_heap S4.out) NS.out.1 1).trans (cell_of_block S4.out 1)
    have il : (i : Int) < (n : Int) := by omega
    have i0 : (0 : Int) ≤ (i : Int) := by omega
    clear hfv
    go_upto_region 5 with fail
    go_region_held3 (fun w' => w'.cell? ⟨Ss, 1, none⟩ = some (.slice (some ⟨gp, 0, none⟩) n n)) (first | exact s1 | exact K5.out) (first
     | (go_at_call 54; refine (X1.out _).mono ?_; rintro e w6 ⟨rfl, hw'⟩; subst w6))
    go_wp2
    go_roundw
    case rel =>
     refine ⟨i + 1, by omega, by go_num, l.set i fv, ?_, fun k hk => ?_, ?_, U5.out.trans (But.below ((Below.refl _ _).drew))⟩
     · show _ = _; rw [List.length_set]; exact LL.out
     · rw [getD_set]
       by_cases e : i = k
       · rw [if_pos ⟨e, by rw [LL.out]; exact hlt⟩, FV.out, e]
       · rw [if_neg (fun h => e h.1)]; exact LI.out k (by omega)
     · show (wr.setCell ⟨gp, i, none⟩ (.int .u32 fv)).heap[gp]? = _; rw [heap_set _ gp i _ _ 29 _ HL.out, u32s_set]
    case measure => simp [intOf]; omega
  · have hie : n = i := by omega
    have R : Hid (wr.heap[gp]? = some (.cells (u32s ((List.range n).map F)) 29 (0, 0))) := by
     show _ = _
     rw [HL.out, list_of l n F LL.out fun k hk => LI.out k (by omega)]
    clear hie
    go_wp2
    go_ret
    refine ⟨⟨Ss, gp, gv, gm, 45⟩, ⟨NS.out.1, NS.out.2.1, NS.out.2.2, Npv.out, Npm.out, Nvm.out⟩, ?_, rfl, ⟨⟨_, (UW.out.block _ (lt_of_heap S4.out) NS.out.1).trans S4.out, rfl, rfl, rfl, rfl⟩, R.out, (UW.out.block _ (lt_of_heap V4.out) Nvp.out).trans V4.out, (UW.out.block _ (lt_of_heap M4.out) Nmp.out).trans M4.out, by simp, List.length_replicate, List.length_replicate⟩, ⟨UW.out.os.trans B4.out.os, UW.out.tape.trans B4.out.tape, UW.out.output.trans B4.out.output, Nat.le_trans B4.out.size UW.out.size, fun k hk => (UW.out.block k (Nat.lt_of_lt_of_le hk B4.out.size) (by have := Gp1.out; omega)).trans (B4.out.block k hk)⟩⟩
    rintro k (e | e | e | e)
    · rw [e]; exact GS.out
    · rw [e]; exact Gp1.out
    · rw [e]; exact Gv1.out
    · rw [e]; exact Gm1.out
end Go.Proofs.YtoihkljlekknkaaGreat
