/-
  One step by the rule Momentum, by the document. Conditions: the configuration is one; the state is one of it; what the slopes are is handed in.
-/
import Derived.Test.YtoihkljlekknkaaGreatAd3
namespace Go.Proofs.YtoihkljlekknkaaGreat
open Go.RowKit
open Go.Joins (cell_of_block unfrozen_of_block)
set_option linter.unusedVariables false
set_option linter.unusedSimpArgs false
set_option maxHeartbeats 16000000 in
set_option maxRecDepth 100000 in
theorem rstep_mom (c : Cf) (m : Nat) (s : ByteArray) (ns nb st : Nat) (x : T3) (vP vV vM : Value) (b : Nat) (w : World) (MC : MeanC c m s ns nb) (c2 : c.ok2) (m3 : m < 3) (wb : WB c) (n0 : 0 < sn c (m + 1)) (hrule : ¬ c.rule = 1) (oP : OutI w b vP x.P) (oV : OutI w b vV x.V) (oM : OutI w b vM x.M) (pP : pats x.P) (pV : pats x.V) (pM : pats x.M) (lP : x.P.length = sn c (m + 1)) (lV : x.V.length = sn c (m + 1)) (lM : x.M.length = sn c (m + 1)) (st4 : st ≤ 1000) :
 Calls Tryz.prog 18 #[.agg (rcs c), .string s, .agg (D3c (st : Int) vP vV vM)] w fun e w' => ∃ uP uV uM, e = .returned (.agg (D3c ((st : Int) + 1) uP uV uM)) ∧ OutI w' w.heap.size uP (STEP c m s ns nb st x).P ∧ OutI w' w.heap.size uV (STEP c m s ns nb st x).V ∧ OutI w' w.heap.size uM (STEP c m s ns nb st x).M ∧ Below w.heap.size w w' := by
 obtain ⟨P, V, M⟩ := x
 dsimp only at oP oV oM pP pV pM lP lV lM
 obtain ⟨X, hX⟩ : ∃ X, X = rcs c := ⟨_, rfl⟩
 obtain ⟨n, hn⟩ : ∃ x, x = sn c (m + 1) := ⟨_, rfl⟩
 have n60 : n ≤ 60 := by rw [hn]; exact sn_le wb (m + 1) (by omega)
 obtain ⟨g, hg⟩ : ∃ g, g = GRD c m s P (PKN c ns st nb) nb := ⟨_, rfl⟩
 have gl : g.length = n := by rw [hg, hn]; exact GRD_len _ _ _ _ _ _
 have pg : pats g := by rw [hg]; exact GRD_pats _ _ _ _ _ _
 rw [← hn] at n0 lP lV lM
 obtain ⟨aP, cP, hvP, hP⟩ := row_at oP
 obtain ⟨aV, cV, hvV, hV⟩ := row_at oV
 obtain ⟨aM, cM, hvM, hM⟩ := row_at oM
 rw [lP] at hvP hP
 rw [lV] at hvV hV
 rw [lM] at hvM hM
 obtain ⟨gP, rfl, gPl, gPc⟩ := hP n0
 obtain ⟨gV, rfl, gVl, gVc⟩ := hV n0
 obtain ⟨gM, rfl, gMl, gMc⟩ := hM n0
 obtain ⟨sI, hsI⟩ : ∃ x : Int, x = (st : Int) := ⟨_, rfl⟩
 obtain ⟨Y, hY⟩ : ∃ Y, Y = D3c sI vP vV vM := ⟨_, rfl⟩
 obtain ⟨W0, hW0, b0, b1, bel, hws⟩ := two_blocks w X Y 24 52
 obtain ⟨W, hW⟩ : ∃ V, V = W0.alloc (.cells (D3c 0 (.slice none 0 0) (.slice none 0 0) (.slice none 0 0)) 52) := ⟨_, rfl⟩
 have a2 : Below W0.heap.size W0 W := by rw [hW]; exact (Below.refl _ _).alloc (Nat.le_refl _) _
 obtain ⟨Bc, hBc⟩ : ∃ B, B = w.heap.size := ⟨_, rfl⟩
 obtain ⟨Bs, hBs⟩ : ∃ B, B = w.heap.size + 1 := ⟨_, rfl⟩
 obtain ⟨R, hR⟩ : ∃ B, B = w.heap.size + 1 + 1 := ⟨_, rfl⟩
 have bW : Below w.heap.size w W := bel.trans (a2.mono bel.size)
 have C0 : Hid (W.heap[Bc]? = some (.cells X 24 (0, 0))) := by rw [hBc]; exact (a2.block _ (lt_of_heap b0)).trans b0
 have S0 : Hid (W.heap[Bs]? = some (.cells Y 52 (0, 0))) := by rw [hBs]; exact (a2.block _ (lt_of_heap b1)).trans b1
 have R0 : Hid (W.heap[R]? = some (.cells (D3c 0 (.slice none 0 0) (.slice none 0 0) (.slice none 0 0)) 52 (0, 0))) := by rw [hW, hR, show w.heap.size + 1 + 1 = W0.heap.size by omega]; exact heap_alloc_new W0 _
 have RW : Hid (w.heap.size ≤ R ∧ Bc < w.heap.size + 3 ∧ Bs < w.heap.size + 3 ∧ R < w.heap.size + 3 ∧ w.heap.size + 3 ≤ W.heap.size) := by
  have h1 : W.heap.size = W0.heap.size + 1 := by rw [hW]; simp
  show _ ∧ _; omega
 have WC : Hid (∀ i, i < n → W.cell? ⟨gP, i, none⟩ = some (.int .i64 (P.getD i 0)) ∧ W.cell? ⟨gV, i, none⟩ = some (.int .i64 (V.getD i 0)) ∧ W.cell? ⟨gM, i, none⟩ = some (.int .i64 (M.getD i 0))) := fun i hi => ⟨(bW.cell (p := ⟨gP, i, none⟩) gPl).trans (gPc i hi), (bW.cell (p := ⟨gV, i, none⟩) gVl).trans (gVc i hi), (bW.cell (p := ⟨gM, i, none⟩) gMl).trans (gMc i hi)⟩
 have WL : Hid (gP < W.heap.size ∧ gV < W.heap.size ∧ gM < W.heap.size) := ⟨Nat.lt_of_lt_of_le gPl bW.size, Nat.lt_of_lt_of_le gVl bW.size, Nat.lt_of_lt_of_le gMl bW.size⟩
 have BE : Hid (Below w.heap.size w W) := bW
 have HWW : Hid ((w.alloc (.cells X 24)).alloc (.cells Y 52) = W0) := hW0
 have HW : Hid _ := hW
 have MCc : Hid (∀ U, Below W.heap.size W U → Calls Tryz.prog 41 #[.agg X, .string s, .agg Y] U fun e w' => ∃ v, e = .returned v ∧ OutI w' U.heap.size v g ∧ Below U.heap.size U w') := fun U hU => by
  rw [hX, hY, hg, hsI]
  exact MC st P V M vP vV vM b U (owns_below (owns_below oP bW) (hU.mono (Nat.le_refl _))) (owns_below (owns_below oV bW) hU) (owns_below (owns_below oM bW) hU) pP (by rw [lP, hn]) st4
 obtain ⟨rt, hrt⟩ : ∃ x, x = RATE c (st : Int) := ⟨_, rfl⟩
 have brt : 0 ≤ rt ∧ rt < 4294967296 := by rw [hrt]; exact RATE_bd c _ c2
 have RTc : Hid (∀ U, Calls Tryz.prog 42 #[.agg X, .int .i64 sI] U fun e w' => e = .returned (.int .i64 rt) ∧ Below U.heap.size U w') := fun U => by rw [hX, hrt, hsI]; exact rrateAt_any c (st : Int) U c2
 obtain ⟨be, hbe⟩ : ∃ x, x = c.beta := ⟨_, rfl⟩
 obtain ⟨ga, hga⟩ : ∃ x, x = c.gamma := ⟨_, rfl⟩
 obtain ⟨sm, hsm⟩ : ∃ x, x = c.small := ⟨_, rfl⟩
 obtain ⟨rl, hrl⟩ : ∃ x, x = c.rule := ⟨_, rfl⟩
 have bbe : 0 ≤ be ∧ be < 4294967296 := by rw [hbe]; exact c2.beta
 have bga : 0 ≤ ga ∧ ga < 4294967296 := by rw [hga]; exact c2.gamma
 have bsm : 0 ≤ sm ∧ sm < 4294967296 := by rw [hsm]; exact c2.small
 have xc : X[16]? = some (.int .i64 be) ∧ X[17]? = some (.int .i64 ga) ∧ X[18]? = some (.int .i64 sm) ∧ X[7]? = some (.int .i64 rl) := by rw [hX, hbe, hga, hsm, hrl]; exact ⟨rfl, rfl, rfl, rfl⟩
 have XC : Hid _ := xc
 have yc : Y[0]? = some (.int .i64 sI) ∧ Y[1]? = some (.slice (some ⟨gP, 0, none⟩) n cP) ∧ Y[2]? = some (.slice (some ⟨gV, 0, none⟩) n cV) ∧ Y[3]? = some (.slice (some ⟨gM, 0, none⟩) n cM) := by rw [hY, hvP, hvV, hvM]; exact ⟨rfl, rfl, rfl, rfl⟩
 have YC : Hid _ := yc
 have sb : 0 ≤ sI ∧ sI ≤ 1000 := by omega
 obtain ⟨q1, hq1⟩ : ∃ x, x = POWN be (st + 1) := ⟨_, rfl⟩
 obtain ⟨q2, hq2⟩ : ∃ x, x = POWN ga (st + 1) := ⟨_, rfl⟩
 have bq1 : 0 ≤ q1 ∧ q1 < 4294967296 := by rw [hq1]; exact POWN_bd _ _
 have bq2 : 0 ≤ q2 ∧ q2 < 4294967296 := by rw [hq2]; exact POWN_bd _ _
 have Cq1 : Hid (∀ U, Calls Tryz.prog 44 #[.int .i64 be, .int .i64 (sI + 1)] U fun e w' => e = .returned (.int .i64 q1) ∧ Below U.heap.size U w') := fun U => by
  have h := raised_any be (st + 1) U bbe.1 bbe.2 (by omega)
  rw [hq1, hsI]; exact h
 have Cq2 : Hid (∀ U, Calls Tryz.prog 44 #[.int .i64 ga, .int .i64 (sI + 1)] U fun e w' => e = .returned (.int .i64 q2) ∧ Below U.heap.size U w') := fun U => by
  have h := raised_any ga (st + 1) U bga.1 bga.2 (by omega)
  rw [hq2, hsI]; exact h
 obtain ⟨d, hd⟩ : ∃ x, x = SUB 1065353216 q1 := ⟨_, rfl⟩
 obtain ⟨f, hf⟩ : ∃ x, x = SUB 1065353216 q2 := ⟨_, rfl⟩
 have bd' : 0 ≤ d ∧ d < 4294967296 := by rw [hd]; exact SUB_bd _ _ (by omega) (by omega)
 have bf' : 0 ≤ f ∧ f < 4294967296 := by rw [hf]; exact SUB_bd _ _ (by omega) (by omega)
 have Cd : Hid (∀ U, Calls Tryz.prog 43 #[.int .i64 1065353216, .int .i64 q1] U fun e w' => e = .returned (.int .i64 d) ∧ Below U.heap.size U w') := fun U => by rw [hd]; exact rsub_any _ _ U (by omega) (by omega) bq1.1 bq1.2
 have Cf' : Hid (∀ U, Calls Tryz.prog 43 #[.int .i64 1065353216, .int .i64 q2] U fun e w' => e = .returned (.int .i64 f) ∧ Below U.heap.size U w') := fun U => by rw [hf]; exact rsub_any _ _ U (by omega) (by omega) bq2.1 bq2.2
 obtain ⟨FP, hFP⟩ : ∃ F : Nat → Int, F = MOP1 be rt P V g := ⟨_, rfl⟩
 obtain ⟨FV, hFV⟩ : ∃ F : Nat → Int, F = MOV1 be V g := ⟨_, rfl⟩
 obtain ⟨FM, hFM⟩ : ∃ F : Nat → Int, F = fun k => M.getD k 0 := ⟨_, rfl⟩
 have RES : Hid ((STEP c m s ns nb st ⟨P, V, M⟩).P = (List.range n).map FP ∧ (STEP c m s ns nb st ⟨P, V, M⟩).V = (List.range n).map FV ∧ (STEP c m s ns nb st ⟨P, V, M⟩).M = (List.range n).map FM) := by
  unfold STEP
  dsimp only
  rw [← hg]
  unfold NP NV NM
  rw [if_neg hrule, if_neg hrule, if_neg hrule, hFP, hFV, hFM, ← gl, hbe, hrt]
  exact ⟨rfl, rfl, list_of M _ _ (by rw [lM, gl]) (fun _ _ => rfl)⟩
 have FVe : Hid (∀ k, FV k = ADD (MUL be (V.getD k 0)) (g.getD k 0)) := fun k => by rw [hFV]; rfl
 have FMe : Hid (∀ k, FM k = M.getD k 0) := fun k => by rw [hFM]
 have FPe : Hid (∀ k, FP k = SUB (P.getD k 0) (MUL rt (FV k))) := fun k => by rw [hFP, hFV]; rfl
 have IX : Hid ((Tryz.prog.info? 24).map (·.size) = some X.size) := by rw [hX]; exact infoC c
 have IY : Hid ((Tryz.prog.info? 52).map (·.size) = some Y.size) := by rw [hY]; exact infoS3 _ _ _ _
 have hr1 : (rl == 1) = false := by rw [hrl]; simpa using hrule
 have HBc : Hid _ := hBc
 have HBs : Hid _ := hBs
 have HR : Hid _ := hR
 have PPg : Hid _ := pg
 have PPP : Hid _ := pP
 have PPV : Hid _ := pV
 have PPM : Hid _ := pM
 have GL : Hid _ := gl
 obtain ⟨j0, ji, jz0, jz1, jz2⟩ := info_three Tryz.infoI
 have INF : Hid (_ ∧ _ ∧ _ ∧ _) := ⟨ji, jz0, jz1, jz2⟩
 rw [RES.out.1, RES.out.2.1, RES.out.2.2, ← hX, ← hsI, ← hY]
 clear RES hX hn hg hsI hY hW0 b0 b1 bel hws hW a2 hBc hBs hR bW hrt hbe hga hsm hrl xc yc hq1 hq2 hd hf hFP hFV hFM hrule MC c2 wb oP oV oM pP pV pM lP lV lM hvP hvV hvM hP hV hM gPl gVl gMl gPc gVc gMc ji jz0 jz1 jz2 gl pg m3
 go_enter Tryz.func18, Tryz.ntmps18
 go_upto_region 1 with fail
 rw [show (w.alloc (.cells X 24)).alloc (.cells Y 52) = W0 from HWW.out]
 rw [show W0.alloc (.cells #[.int .i64 0, .slice none 0 0, .slice none 0 0, .slice none 0 0] 52) = W from HW.out.symm]
 rw [← HR.out, ← HBs.out, ← HBc.out]
 go_upto_region 2 with (first
  | (refine wpList_load_row rfl 24 _ rfl Bc rfl 24 X (0, 0) _ C0.out Tryz.underlying24 rfl IX.out ?_)
  | (refine wpList_load_row rfl 52 _ rfl Bs rfl 52 Y (0, 0) _ S0.out Tryz.underlying52 rfl IY.out ?_)
  | (go_at_call 41; refine (MCc.out _ (Below.refl _ _)).mono ?_; rintro e w1 ⟨vg, rfl, og, b1⟩
     have B1 : Hid (Below W.heap.size W w1) := b1
     have OG : Hid _ := og
     have C1 : Hid (w1.heap[Bc]? = some (.cells X 24 (0, 0))) := (b1.block _ (lt_of_heap C0.out)).trans C0.out
     have S1 : Hid (w1.heap[Bs]? = some (.cells Y 52 (0, 0))) := (b1.block _ (lt_of_heap S0.out)).trans S0.out
     have y1 : w1.cell? ⟨Bs, 0, none⟩ = some (.int .i64 sI) := (cell_of_block S1.out 0).trans YC.out.1
     clear b1 og))
 obtain ⟨ag, cg, hvg, hgc⟩ := row_at OG.out
 rw [GL.out] at hvg hgc
 obtain ⟨gg, rfl, ggl, ggc⟩ := hgc n0
 subst hvg
 have GG : Hid (gg < w1.heap.size ∧ ∀ i, i < n → w1.cell? ⟨gg, i, none⟩ = some (.int .i64 (g.getD i 0))) := ⟨ggl, ggc⟩
 have ALL : Hid (∀ U, Below w1.heap.size w1 U → U.heap[Bc]? = some (.cells X 24 (0, 0)) ∧ U.heap[Bs]? = some (.cells Y 52 (0, 0)) ∧ U.heap[R]? = some (.cells (D3c 0 (.slice none 0 0) (.slice none 0 0) (.slice none 0 0)) 52 (0, 0)) ∧ Below w.heap.size w U ∧ (∀ i, i < n → U.cell? ⟨gP, i, none⟩ = some (.int .i64 (P.getD i 0)) ∧ U.cell? ⟨gV, i, none⟩ = some (.int .i64 (V.getD i 0)) ∧ U.cell? ⟨gM, i, none⟩ = some (.int .i64 (M.getD i 0)) ∧ U.cell? ⟨gg, i, none⟩ = some (.int .i64 (g.getD i 0)))) := fun U hU => by
  have hb : Below W.heap.size W U := B1.out.trans (hU.mono B1.out.size)
  have hb2 : Below w.heap.size w U := BE.out.trans (hb.mono BE.out.size)
  exact ⟨(hb.block _ (lt_of_heap C0.out)).trans C0.out, (hb.block _ (lt_of_heap S0.out)).trans S0.out, (hb.block _ (lt_of_heap R0.out)).trans R0.out, hb2, fun i hi => ⟨(hb.cell (p := ⟨gP, i, none⟩) WL.out.1).trans (WC.out i hi).1, (hb.cell (p := ⟨gV, i, none⟩) WL.out.2.1).trans (WC.out i hi).2.1, (hb.cell (p := ⟨gM, i, none⟩) WL.out.2.2).trans (WC.out i hi).2.2, (hU.cell (p := ⟨gg, i, none⟩) GG.out.1).trans (GG.out.2 i hi)⟩⟩
 clear hgc ggl ggc OG MCc
 go_upto_region 3 with (first
  | (refine wpList_load_row rfl 24 _ rfl Bc rfl 24 X (0, 0) _ C1.out Tryz.underlying24 rfl IX.out ?_)
  | (go_at_call 42; refine (RTc.out _).mono ?_; rintro e w2 ⟨rfl, b2⟩
     have B2 : Hid (Below w1.heap.size w1 w2) := b2
     have y2 : w2.cell? ⟨Bs, 0, none⟩ = some (.int .i64 sI) := (cell_of_block (ALL.out _ b2).2.1 0).trans YC.out.1
     have e2 : w2.cell? ⟨Bc, 16, none⟩ = some (.int .i64 be) := (cell_of_block (ALL.out _ b2).1 16).trans XC.out.1
     clear b2))
 go_upto_region 4 with (first
  | (go_at_call 44; refine (Cq1.out _).mono ?_; rintro e w3 ⟨rfl, b3⟩
     have B3 : Hid (Below w1.heap.size w1 w3) := B2.out.trans (b3.mono B2.out.size)
     clear b3)
  | (go_at_call 43; refine (Cd.out _).mono ?_; rintro e w4 ⟨rfl, b4⟩
     have B4 : Hid (Below w1.heap.size w1 w4) := B3.out.trans (b4.mono B3.out.size)
     have y4 : w4.cell? ⟨Bs, 0, none⟩ = some (.int .i64 sI) := (cell_of_block (ALL.out _ B4.out).2.1 0).trans YC.out.1
     have e4 : w4.cell? ⟨Bc, 17, none⟩ = some (.int .i64 ga) := (cell_of_block (ALL.out _ B4.out).1 17).trans XC.out.2.1
     clear b4))
 go_upto_region 5 with (first
  | (go_at_call 44; refine (Cq2.out _).mono ?_; rintro e w5 ⟨rfl, b5⟩
     have B5 : Hid (Below w1.heap.size w1 w5) := B4.out.trans (b5.mono B4.out.size)
     clear b5)
  | (go_at_call 43; refine (Cf'.out _).mono ?_; rintro e w6 ⟨rfl, b6⟩
     have B6 : Hid (Below w1.heap.size w1 w6) := B5.out.trans (b6.mono B5.out.size)
     have y6 : w6.cell? ⟨Bs, 0, none⟩ = some (.int .i64 sI) := (cell_of_block (ALL.out _ B6.out).2.1 0).trans YC.out.1
     clear b6))
 obtain ⟨B, hB⟩ : ∃ x, x = w6.heap.size := ⟨_, rfl⟩
 obtain ⟨W5, hW5⟩ : ∃ x, x = w6.alloc (.cells (D3c (sI + 1) (.slice none 0 0) (.slice none 0 0) (.slice none 0 0)) 52) := ⟨_, rfl⟩
 have a5 : Below w6.heap.size w6 W5 := by rw [hW5]; exact (Below.refl _ _).alloc (Nat.le_refl _) _
 obtain ⟨base, hbase⟩ : ∃ x, x = W5.heap.size := ⟨_, rfl⟩
 have z5 : W5.heap.size = w6.heap.size + 1 := by rw [hW5]; simp
 have D5 : Hid (D3 B base (sI + 1) (.slice none 0 0) (.slice none 0 0) (.slice none 0 0) [] [] [] W5) := ⟨by rw [hW5, hB]; exact heap_alloc_new w6 _, nil_own _ _, nil_own _ _, nil_own _ _, apart_nil _, apart_nil _, apart_nil _, by omega, by omega⟩
 have B7 : Hid (Below w1.heap.size w1 W5) := B6.out.trans (a5.mono B6.out.size)
 have HB : Hid _ := hB
 have HW5 : Hid _ := hW5
 have BS : Hid (W5.heap.size ≤ base ∧ base = W5.heap.size) := by show _ ∧ _; omega
 have wB : Hid (w.heap.size ≤ B ∧ w.heap.size ≤ base) := by
  have h1 := (ALL.out _ B6.out).2.2.2.1.size
  show _ ∧ _; omega
 have NEB : Hid (∀ k, k < w1.heap.size → k ≠ B) := fun k hk => by have h1 := B6.out.size; omega
 have F5 : Hid (∀ U, But (fun k => k = B) W5 U → U.heap[Bc]? = some (.cells X 24 (0, 0)) ∧ U.heap[Bs]? = some (.cells Y 52 (0, 0)) ∧ U.heap[R]? = some (.cells (D3c 0 (.slice none 0 0) (.slice none 0 0) (.slice none 0 0)) 52 (0, 0)) ∧ (∀ i, i < n → U.cell? ⟨gP, i, none⟩ = some (.int .i64 (P.getD i 0)) ∧ U.cell? ⟨gV, i, none⟩ = some (.int .i64 (V.getD i 0)) ∧ U.cell? ⟨gM, i, none⟩ = some (.int .i64 (M.getD i 0)) ∧ U.cell? ⟨gg, i, none⟩ = some (.int .i64 (g.getD i 0)))) := fun U hU => by
  have h := ALL.out _ B7.out
  have s1 := B1.out.size
  have s7 := B7.out.size
  have q : ∀ k, k < w1.heap.size → k < W5.heap.size ∧ ¬ k = B := fun k hk => ⟨by omega, NEB.out k hk⟩
  have k1 := q Bc (lt_of_heap C1.out)
  have k2 := q Bs (lt_of_heap S1.out)
  have k3 := q R (lt_of_heap ((B1.out.block _ (lt_of_heap R0.out)).trans R0.out))
  have k4 := q gP (by have := WL.out.1; omega)
  have k5 := q gV (by have := WL.out.2.1; omega)
  have k6 := q gM (by have := WL.out.2.2; omega)
  have k7 := q gg GG.out.1
  exact ⟨(hU.block _ k1.1 k1.2).trans h.1, (hU.block _ k2.1 k2.2).trans h.2.1, (hU.block _ k3.1 k3.2).trans h.2.2.1, fun i hi => ⟨(hU.cell k4.1 k4.2 i).trans (h.2.2.2.2 i hi).1, (hU.cell k5.1 k5.2 i).trans (h.2.2.2.2 i hi).2.1, (hU.cell k6.1 k6.2 i).trans (h.2.2.2.2 i hi).2.2.1, (hU.cell k7.1 k7.2 i).trans (h.2.2.2.2 i hi).2.2.2⟩⟩
 have BE7 : Hid (Below w.heap.size w W5) := (ALL.out _ B7.out).2.2.2.1
 clear hB hW5 a5 hbase z5
 go_upto_region 6 with fail
 rw [show w6.alloc (.cells #[.int .i64 (sI + 1), .slice none 0 0, .slice none 0 0, .slice none 0 0] 52) = W5 from HW5.out.symm]
 rw [← HB.out]
 clear y1 y2 e2 y4 e4 y6 HB HW5 HWW HW C0 S0 R0 C1 S1 B1 B2 B3 B4 B5 B6 B7 ALL GG WC WL NEB BE Cq1 Cq2 Cd Cf' RTc HBc HBs HR
 go_wp2
 go_loopw [12] (fun iv wr => ∃ (i : Nat) (tP tV tM : Value), i ≤ n ∧ iv = .int .i64 i ∧ Hid (D3 B base (sI + 1) tP tV tM ((List.range i).map FP) ((List.range i).map FV) ((List.range i).map FM) wr) ∧ Hid (But (fun k => k = B) W5 wr) ∧ Hid (Below w.heap.size w wr)) (fun iv _ => n - (intOf iv).toNat)
 case atStart => exact ⟨0, _, _, _, by omega, rfl, D5.out, But.refl _ _, BE7.out⟩
 case round =>
  clear D5 BE7
  obtain ⟨i, tP, tV, tM, hi, rfl, HD, UW, BW⟩ := hrel
  by_cases hlt : i < n
  · have FC := F5.out wr UW.out
    have CE : Hid (∀ U, Below wr.heap.size wr U → (U.cell? ⟨Bc, 16, none⟩ = some (.int .i64 be) ∧ U.cell? ⟨Bc, 17, none⟩ = some (.int .i64 ga) ∧ U.cell? ⟨Bc, 18, none⟩ = some (.int .i64 sm) ∧ U.cell? ⟨Bc, 7, none⟩ = some (.int .i64 rl)) ∧ (U.cell? ⟨Bs, 1, none⟩ = some (.slice (some ⟨gP, 0, none⟩) n cP) ∧ U.cell? ⟨Bs, 2, none⟩ = some (.slice (some ⟨gV, 0, none⟩) n cV) ∧ U.cell? ⟨Bs, 3, none⟩ = some (.slice (some ⟨gM, 0, none⟩) n cM)) ∧ (U.cell? ⟨gP, i, none⟩ = some (.int .i64 (P.getD i 0)) ∧ U.cell? ⟨gV, i, none⟩ = some (.int .i64 (V.getD i 0)) ∧ U.cell? ⟨gM, i, none⟩ = some (.int .i64 (M.getD i 0)) ∧ U.cell? ⟨gg, i, none⟩ = some (.int .i64 (g.getD i 0)))) := fun U hU => by
     have hb : But (fun k => k = B) W5 U := UW.out.trans (But.below hU)
     obtain ⟨f1, f2, _, f4⟩ := F5.out U hb
     exact ⟨⟨(cell_of_block f1 _).trans XC.out.1, (cell_of_block f1 _).trans XC.out.2.1, (cell_of_block f1 _).trans XC.out.2.2.1, (cell_of_block f1 _).trans XC.out.2.2.2⟩, ⟨(cell_of_block f2 _).trans YC.out.2.1, (cell_of_block f2 _).trans YC.out.2.2.1, (cell_of_block f2 _).trans YC.out.2.2.2⟩, f4 i hlt⟩
    clear FC
    have bPi := pats_at PPP.out i
    have bVi := pats_at PPV.out i
    have bMi := pats_at PPM.out i
    have bgi := pats_at PPg.out i
    have e1 : Hid _ := FVe.out i
    have e2 : Hid _ := FMe.out i
    have e3 : Hid _ := FPe.out i
    obtain ⟨Pi, hPi⟩ : ∃ x, x = P.getD i 0 := ⟨_, rfl⟩
    obtain ⟨Vi, hVi⟩ : ∃ x, x = V.getD i 0 := ⟨_, rfl⟩
    obtain ⟨Mi, hMi⟩ : ∃ x, x = M.getD i 0 := ⟨_, rfl⟩
    obtain ⟨gi, hgi⟩ : ∃ x, x = g.getD i 0 := ⟨_, rfl⟩
    simp only [← hPi, ← hVi, ← hMi, ← hgi] at CE bPi bVi bMi bgi e1 e2 e3
    have K9 : Hid (∀ U, Below wr.heap.size wr U → U.cell? ⟨Bc, 16, none⟩ = some (.int .i64 be) ∧ U.cell? ⟨Bs, 2, none⟩ = some (.slice (some ⟨gV, 0, none⟩) n cV) ∧ U.cell? ⟨gV, i, none⟩ = some (.int .i64 Vi) ∧ U.cell? ⟨gg, i, none⟩ = some (.int .i64 gi)) := fun U h => ⟨(CE.out U h).1.1, (CE.out U h).2.1.2.1, (CE.out U h).2.2.2.1, (CE.out U h).2.2.2.2.2⟩
    have K14 : Hid (∀ U, Below wr.heap.size wr U → U.cell? ⟨Bc, 17, none⟩ = some (.int .i64 ga) ∧ U.cell? ⟨Bs, 3, none⟩ = some (.slice (some ⟨gM, 0, none⟩) n cM) ∧ U.cell? ⟨gM, i, none⟩ = some (.int .i64 Mi) ∧ U.cell? ⟨gg, i, none⟩ = some (.int .i64 gi)) := fun U h => ⟨(CE.out U h).1.2.1, (CE.out U h).2.1.2.2, (CE.out U h).2.2.2.2.1, (CE.out U h).2.2.2.2.2⟩
    have K15 : Hid (∀ U, Below wr.heap.size wr U → U.cell? ⟨Bc, 18, none⟩ = some (.int .i64 sm)) := fun U h => (CE.out U h).1.2.2.1
    obtain ⟨m1, hm1⟩ : ∃ x, x = MUL be Vi := ⟨_, rfl⟩
    have bm1 : 0 ≤ m1 ∧ m1 < 4294967296 := by rw [hm1]; exact MUL_bd' _ _
    have Cm1 : Hid (∀ U, Calls Tryz.prog 39 #[.int .i64 be, .int .i64 Vi] U fun e w' => e = .returned (.int .i64 m1) ∧ Below U.heap.size U w') := fun U => by rw [hm1]; exact rmul_any _ _ U bbe.1 bbe.2 bVi.1 bVi.2
    have Hm1 : Hid _ := hm1
    obtain ⟨v0, hv0⟩ : ∃ x, x = ADD m1 gi := ⟨_, rfl⟩
    have bv0 : 0 ≤ v0 ∧ v0 < 4294967296 := by rw [hv0]; exact ADD_bd _ _ bm1.1 bm1.2 bgi.1 bgi.2
    have Cv0 : Hid (∀ U, Calls Tryz.prog 45 #[.int .i64 m1, .int .i64 gi] U fun e w' => e = .returned (.int .i64 v0) ∧ Below U.heap.size U w') := fun U => by rw [hv0]; exact radd_any _ _ U bm1.1 bm1.2 bgi.1 bgi.2
    have Hv0 : Hid _ := hv0
    obtain ⟨y0, hy0⟩ : ∃ x, x = MUL rt v0 := ⟨_, rfl⟩
    have by0 : 0 ≤ y0 ∧ y0 < 4294967296 := by rw [hy0]; exact MUL_bd' _ _
    have Cy0 : Hid (∀ U, Calls Tryz.prog 39 #[.int .i64 rt, .int .i64 v0] U fun e w' => e = .returned (.int .i64 y0) ∧ Below U.heap.size U w') := fun U => by rw [hy0]; exact rmul_any _ _ U brt.1 brt.2 bv0.1 bv0.2
    have Hy0 : Hid _ := hy0
    obtain ⟨pn, hpn⟩ : ∃ x, x = SUB Pi y0 := ⟨_, rfl⟩
    have bpn : 0 ≤ pn ∧ pn < 4294967296 := by rw [hpn]; exact SUB_bd _ _ bPi.1 bPi.2
    have Cpn : Hid (∀ U, Calls Tryz.prog 43 #[.int .i64 Pi, .int .i64 y0] U fun e w' => e = .returned (.int .i64 pn) ∧ Below U.heap.size U w') := fun U => by rw [hpn]; exact rsub_any _ _ U bPi.1 bPi.2 by0.1 by0.2
    have Hpn : Hid _ := hpn
    have EV : Hid (FV i = v0) := by show _ = _; rw [e1.out, hv0, hm1]
    have EM : Hid (FM i = Mi) := e2.out
    have EP : Hid (FP i = pn) := by show _ = _; rw [e3.out, EV.out, hpn, hy0]
    clear hPi hVi hMi hgi e1 e2 e3 hm1 hv0 hy0 hpn
    have SP : Hid ((List.range (i + 1)).map FP = (List.range i).map FP ++ [pn]) := by show _ = _; rw [List.range_succ, List.map_append, ← EP.out]; rfl
    have SV : Hid ((List.range (i + 1)).map FV = (List.range i).map FV ++ [v0]) := by show _ = _; rw [List.range_succ, List.map_append, ← EV.out]; rfl
    have SM' : Hid ((List.range (i + 1)).map FM = (List.range i).map FM ++ [Mi]) := by show _ = _; rw [List.range_succ, List.map_append, ← EM.out]; rfl
    have X0 : Hid (Below wr.heap.size wr wr) := Below.refl _ _
    have il : (i : Int) < (n : Int) := by omega
    have i0 : (0 : Int) ≤ (i : Int) := by omega
    go_upto_region 9 with fail
    go_region_held3 (fun w' => w'.cell? ⟨Bc, 16, none⟩ = some (.int .i64 be) ∧ w'.cell? ⟨Bs, 2, none⟩ = some (.slice (some ⟨gV, 0, none⟩) n cV) ∧ w'.cell? ⟨gV, i, none⟩ = some (.int .i64 Vi) ∧ w'.cell? ⟨gg, i, none⟩ = some (.int .i64 gi)) (first | exact K9.out _ X0.out.drew | exact K9.out _ X1.out | exact K9.out _ X2.out) (first
     | (go_at_call 39; refine (Cm1.out _).mono ?_; rintro e x1 ⟨rfl, bb⟩
        have X1 : Hid (Below wr.heap.size wr x1) := (X0.out.drew).trans (bb.mono (X0.out.drew).size)

        clear bb)
     | (go_at_call 45; refine (Cv0.out _).mono ?_; rintro e x2 ⟨rfl, bb⟩
        have X2 : Hid (Below wr.heap.size wr x2) := X1.out.trans (bb.mono X1.out.size)
        have k3 := (CE.out _ X2.out).2.1.2.2
        have k4 := (CE.out _ X2.out).2.2.2.2.1
        clear bb))
    rename_i hHeld
    clear hHeld
    go_upto_region 16 with (first
     | (go_at_call 39; refine (Cy0.out _).mono ?_; rintro e x3 ⟨rfl, bb⟩
        have X3 : Hid (Below wr.heap.size wr x3) := X2.out.trans (bb.mono X2.out.size)
        have k7 := (CE.out _ X3.out).1.2.2.2
        have k5 := (CE.out _ X3.out).2.1.1
        have k6 := (CE.out _ X3.out).2.2.1
        clear bb))
    clear k3 k4 k7
    go_upto_region 17 with (first
     | (go_at_call 43; refine (Cpn.out _).mono ?_; rintro e x4 ⟨rfl, bb⟩
        have X4 : Hid (Below wr.heap.size wr x4) := X3.out.trans (bb.mono X3.out.size)
        have DX : Hid _ := HD.out.below X4.out
        have UX : Hid (But (fun k => k = B) W5 x4) := UW.out.trans (But.below X4.out)
        have BX : Hid (Below w.heap.size w x4) := BW.out.trans (X4.out.mono BW.out.size)
        clear bb))
    obtain ⟨lp, hlp⟩ : ∃ x, x = (List.range i).map FP := ⟨_, rfl⟩
    obtain ⟨lv, hlv⟩ : ∃ x, x = (List.range i).map FV := ⟨_, rfl⟩
    obtain ⟨lm, hlm⟩ : ∃ x, x = (List.range i).map FM := ⟨_, rfl⟩
    have lpl : lp.length = i := by rw [hlp]; simp
    have lvl : lv.length = i := by rw [hlv]; simp
    have lml : lm.length = i := by rw [hlm]; simp
    rw [← hlp, ← hlv, ← hlm] at DX
    rw [← hlp] at SP
    rw [← hlv] at SV
    rw [← hlm] at SM'
    have lp3 : Hid (lp.length + 1 ≤ maxLen) := by show _ ≤ _; unfold maxLen; omega
    have lp4 : Hid ((lp.length + 1) * 8 ≤ 140737488355328) := by show _ ≤ _; omega
    have lv3 : Hid (lv.length + 1 ≤ maxLen) := by show _ ≤ _; unfold maxLen; omega
    have lv4 : Hid ((lv.length + 1) * 8 ≤ 140737488355328) := by show _ ≤ _; omega
    have lm3 : Hid (lm.length + 1 ≤ maxLen) := by show _ ≤ _; unfold maxLen; omega
    have lm4 : Hid ((lm.length + 1) * 8 ≤ 140737488355328) := by show _ ≤ _; omega
    obtain ⟨pa, pc, hvP, -⟩ := row_at DX.out.oP
    obtain ⟨va, vc, hvV, -⟩ := row_at DX.out.oV
    obtain ⟨ma, mc, hvM, -⟩ := row_at DX.out.oM
    subst hvP hvV hvM
    have D2 : Hid _ := DX.out.alloc (.cells #[.int .i64 pn] 3)
    have n2 : x4.cell? ⟨B, 1, none⟩ = some (.slice pa lp.length pc) := cell_of_block DX.out.blk 1
    have B2 : Hid (Below w.heap.size w (x4.alloc (.cells #[.int .i64 pn] 3))) := BX.out.alloc BX.out.size _
    clear hlp hlv hlm lpl lvl lml k5 k6
    go_upto_region 18 with (first
     | (at_builtin; refine wpList_append_lies _ rfl _ _ 47 rfl base 3 j0 _ 1 8 Tryz.underlying47 INF.out.1 INF.out.2.1 INF.out.2.2.1 INF.out.2.2.2 rfl (by decide) _ _ _ rfl D2.out.oP ⟨x4.heap.size, 0, none⟩ 1 1 [.int .i64 pn] rfl rfl (one_cell3 _ _ rfl _) (one_c _ rfl) (by decide) lp3.out lp4.out D2.out.bs _ rfl ?_
        intro g10 cap1 w10 hown hgrow hat hlt2
        have O1 : Hid (OutI w10 base (.slice (some ⟨g10, 0, none⟩) (lp.length + 1) cap1) (lp ++ [pn])) := by
         show World.ownsRow _ _ _ _ _ _ _
         rw [← ints_app, List.length_append]; exact hown
        have kB := blk_grown D2.out.oP D2.out.bB D2.out.bs D2.out.blk hgrow
        have kc : w10.cell? ⟨B, 1, none⟩ = some (.slice pa lp.length pc) := cell_of_block kB 1
        have kz : w10.frozen? ⟨B, 1, none⟩ = false := unfrozen_of_block kB _
        have E1 : Hid _ := D2.out.app1 O1.out hgrow hat
        have BB1 : Hid (Below w.heap.size w (w10.setCell ⟨B, 1, none⟩ (.slice (some ⟨g10, 0, none⟩) (lp.length + 1) cap1))) := below_app B2.out D2.out.oP wB.out.1 D2.out.bB hgrow
        have UU1 : Hid (But (fun k => k = B) W5 (w10.setCell ⟨B, 1, none⟩ (.slice (some ⟨g10, 0, none⟩) (lp.length + 1) cap1))) := app_but UX.out BS.out.1 D2.out.oP hgrow
        clear hown hgrow hat hlt2 kB))
    obtain ⟨U1, hU⟩ : ∃ U, U = w10.setCell ⟨B, 1, none⟩ (.slice (some ⟨g10, 0, none⟩) (lp.length + 1) cap1) := ⟨_, rfl⟩
    rw [← hU] at E1 BB1 UU1 ⊢
    clear hU kc kz
    clear n2 D2 B2
    have D4 : Hid _ := E1.out.alloc (.cells #[.int .i64 v0] 3)
    have n3 : U1.cell? ⟨B, 2, none⟩ = some (.slice va lv.length vc) := cell_of_block E1.out.blk 2
    have B4 : Hid (Below w.heap.size w (U1.alloc (.cells #[.int .i64 v0] 3))) := BB1.out.alloc BB1.out.size _
    go_upto_region 19 with (first
     | (at_builtin; refine wpList_append_lies _ rfl _ _ 47 rfl base 3 j0 _ 1 8 Tryz.underlying47 INF.out.1 INF.out.2.1 INF.out.2.2.1 INF.out.2.2.2 rfl (by decide) _ _ _ rfl D4.out.oV ⟨U1.heap.size, 0, none⟩ 1 1 [.int .i64 v0] rfl rfl (one_cell3 _ _ rfl _) (one_c _ rfl) (by decide) lv3.out lv4.out D4.out.bs _ rfl ?_
        intro g20 cap2 w20 hown hgrow hat hlt2
        have O2 : Hid (OutI w20 base (.slice (some ⟨g20, 0, none⟩) (lv.length + 1) cap2) (lv ++ [v0])) := by
         show World.ownsRow _ _ _ _ _ _ _
         rw [← ints_app, List.length_append]; exact hown
        have kB := blk_grown D4.out.oV D4.out.bB D4.out.bs D4.out.blk hgrow
        have kc : w20.cell? ⟨B, 2, none⟩ = some (.slice va lv.length vc) := cell_of_block kB 2
        have kz : w20.frozen? ⟨B, 2, none⟩ = false := unfrozen_of_block kB _
        have E2 : Hid _ := D4.out.app2 O2.out hgrow hat
        have BB2 : Hid (Below w.heap.size w (w20.setCell ⟨B, 2, none⟩ (.slice (some ⟨g20, 0, none⟩) (lv.length + 1) cap2))) := below_app B4.out D4.out.oV wB.out.1 D4.out.bB hgrow
        have UU2 : Hid (But (fun k => k = B) W5 (w20.setCell ⟨B, 2, none⟩ (.slice (some ⟨g20, 0, none⟩) (lv.length + 1) cap2))) := app_but UU1.out BS.out.1 D4.out.oV hgrow
        clear hown hgrow hat hlt2 kB))
    obtain ⟨U2, hU⟩ : ∃ U, U = w20.setCell ⟨B, 2, none⟩ (.slice (some ⟨g20, 0, none⟩) (lv.length + 1) cap2) := ⟨_, rfl⟩
    rw [← hU] at E2 BB2 UU2 ⊢
    clear hU kc kz
    clear n3 D4 B4
    have D5 : Hid _ := E2.out.alloc (.cells #[.int .i64 Mi] 3)
    have n4 : U2.cell? ⟨B, 3, none⟩ = some (.slice ma lm.length mc) := cell_of_block E2.out.blk 3
    have B5 : Hid (Below w.heap.size w (U2.alloc (.cells #[.int .i64 Mi] 3))) := BB2.out.alloc BB2.out.size _
    go_wp2_with (first
     | (at_builtin; refine wpList_append_lies _ rfl _ _ 47 rfl base 3 j0 _ 1 8 Tryz.underlying47 INF.out.1 INF.out.2.1 INF.out.2.2.1 INF.out.2.2.2 rfl (by decide) _ _ _ rfl D5.out.oM ⟨U2.heap.size, 0, none⟩ 1 1 [.int .i64 Mi] rfl rfl (one_cell3 _ _ rfl _) (one_c _ rfl) (by decide) lm3.out lm4.out D5.out.bs _ rfl ?_
        intro g30 cap3 w30 hown hgrow hat hlt2
        have O3 : Hid (OutI w30 base (.slice (some ⟨g30, 0, none⟩) (lm.length + 1) cap3) (lm ++ [Mi])) := by
         show World.ownsRow _ _ _ _ _ _ _
         rw [← ints_app, List.length_append]; exact hown
        have kB := blk_grown D5.out.oM D5.out.bB D5.out.bs D5.out.blk hgrow
        have kc : w30.cell? ⟨B, 3, none⟩ = some (.slice ma lm.length mc) := cell_of_block kB 3
        have kz : w30.frozen? ⟨B, 3, none⟩ = false := unfrozen_of_block kB _
        have E3 : Hid _ := D5.out.app3 O3.out hgrow hat
        have BB3 : Hid (Below w.heap.size w (w30.setCell ⟨B, 3, none⟩ (.slice (some ⟨g30, 0, none⟩) (lm.length + 1) cap3))) := below_app B5.out D5.out.oM wB.out.1 D5.out.bB hgrow
        have UU3 : Hid (But (fun k => k = B) W5 (w30.setCell ⟨B, 3, none⟩ (.slice (some ⟨g30, 0, none⟩) (lm.length + 1) cap3))) := app_but UU2.out BS.out.1 D5.out.oM hgrow
        clear hown hgrow hat hlt2 kB))
    obtain ⟨U3, hU⟩ : ∃ U, U = w30.setCell ⟨B, 3, none⟩ (.slice (some ⟨g30, 0, none⟩) (lm.length + 1) cap3) := ⟨_, rfl⟩
    rw [← hU] at E3 BB3 UU3 ⊢
    clear hU kc kz
    go_roundw
    case rel => exact ⟨i + 1, _, _, _, by omega, by go_num, by rw [SP.out, SV.out, SM'.out]; exact E3.out, UU3.out, BB3.out⟩
    case measure => simp [intOf]; omega
  · have hie : n = i := by omega
    subst hie
    obtain ⟨Z, hZ⟩ : ∃ Z, Z = D3c (sI + 1) tP tV tM := ⟨_, rfl⟩
    have HZ : Hid _ := hZ
    have K1 : Hid (wr.heap[B]? = some (.cells Z 52 (0, 0))) := by rw [hZ]; exact HD.out.blk
    have K2 : Hid _ := (F5.out wr UW.out).2.2.1
    have IZ : Hid ((Tryz.prog.info? 52).map (·.size) = some Z.size) := by rw [hZ]; exact infoS3 _ _ _ _
    have OZ : Hid (Z.all (·.oneCell') = true) := by
     obtain ⟨pa, pc, e1, -⟩ := row_at HD.out.oP
     obtain ⟨va, vc, e2, -⟩ := row_at HD.out.oV
     obtain ⟨ma, mc, e3, -⟩ := row_at HD.out.oM
     show _ = _; rw [hZ, e1, e2, e3]; simp [D3c, Value.oneCell']
    have RB : Hid (R < base) := by have h1 := lt_of_heap K2.out; have h2 := RW.out; have h3 := HD.out.bB; have h4 := (F5.out W5 (But.refl _ _)).2.2.1; have h5 := lt_of_heap h4; have h6 := BS.out.2; show _ < _; omega
    clear hZ
    go_wp2_with (first
     | (refine wpList_load_row rfl 52 _ rfl B rfl 52 Z (0, 0) _ K1.out Tryz.underlying52 rfl IZ.out ?_)
     | (refine wpList_store_row rfl 52 _ _ rfl R Z rfl rfl 52 _ K2.out IZ.out (by rw [HZ.out]; rfl) OZ.out ?_))
    have OS : Hid (∀ v l, OutI wr base v l → OutI (wr.setRow R Z) w.heap.size v l) := fun v l h => by
     refine Go.Joins.ownsRow_le (base := base) ⟨h.1, ?_⟩ wB.out.2
     rcases h.2 with h' | ⟨k, cap, cur, rfl, h1, h2, h3⟩
     · exact Or.inl h'
     · refine Or.inr ⟨k, cap, cur, rfl, h1, ?_, h3⟩
       rw [setRow_other _ _ _ _ (by have h4 := RB.out; omega)]; exact h2
    refine bodyPost_ret (v := .agg Z) (results_cell_row Tryz.results18 _ _ R 52 Z (0, 0) _ rfl (setRow_heap wr _ _ _ _ _ K2.out) Tryz.underlying52 rfl IZ.out) rfl ⟨tP, tV, tM, by rw [HZ.out], OS.out _ _ HD.out.oP, OS.out _ _ HD.out.oV, OS.out _ _ HD.out.oM, ?_⟩
    exact Below.setRow BW.out RW.out.1 _
end Go.Proofs.YtoihkljlekknkaaGreat
