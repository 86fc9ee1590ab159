/-
  One step, by the document. Conditions: the configuration is one; the state is one of it; what the slopes are is handed in.
-/
import Derived.Test.YtoihkljlekknkaaGreatAd2
import Derived.Test.YtoihkljlekknkaaGreatAp33
import Derived.Test.YtoihkljlekknkaaGreatRefSqrt
import Derived.Test.YtoihkljlekknkaaGreatRt3
namespace Go.Proofs.YtoihkljlekknkaaGreat
open Go.RowKit
open Go.Joins (cell_of_block unfrozen_of_block)
set_option linter.unusedVariables false
set_option linter.unusedSimpArgs false
/-- what mean is to answer -/
def MeanC (c : Cf) (m : Nat) (s : ByteArray) (ns nb : Nat) : Prop := ∀ (st : Nat) (P V M : List Int) (vP vV vM : Value) (b : Nat) (W : World), OutI W b vP P → OutI W b vV V → OutI W b vM M → pats P → P.length = sn c (m + 1) → st ≤ 1000 →
 Calls Tryz.prog 41 #[.agg (rcs c), .string s, .agg (D3c (st : Int) vP vV vM)] W fun e w' => ∃ v, e = .returned v ∧ OutI w' W.heap.size v (GRD c m s P (PKN c ns st nb) nb) ∧ Below W.heap.size W w'
theorem rcs_infoC (c : Cf) : (Tryz.prog.info? 24).map (·.size) = some (rcs c).size := infoC c
theorem but_low {O : Nat → Prop} {w w' : World} (b : But O w w') {k : Nat} {ob : Obj} (h : w.heap[k]? = some ob) (hk : ¬ O k) : w'.heap[k]? = some ob := (b.block k ((Array.getElem?_eq_some_iff.1 h).1) hk).trans h
theorem app_but {W5 cur wk : World} {base B o : Nat} {u x : Value} {l : List Int} {ob : Obj} (h : But (fun k => k = B) W5 cur) (hb : W5.heap.size ≤ base) (hu : OutI (cur.alloc ob) base u l) (hg : (cur.alloc ob).grownBy wk u.ownBlock) : But (fun k => k = B) W5 (wk.setCell ⟨B, o, none⟩ x) := by
 refine ⟨hg.os.trans h.os, hg.tape.trans h.tape, hg.output.trans h.output, ?_, fun k hk hB => ?_⟩
 · have h1 := h.size; have h2 := hg.size; simp [World.setCell] at h2 ⊢; omega
 · have hl : k < cur.heap.size := Nat.lt_of_lt_of_le hk h.size
   rw [heap_set_ne wk B o k x hB, hg.block k (by simp; omega) (fun q => by have h1 := (World.ownsRow.lt hu k q.symm).1; omega), Below.heap_alloc _ _ _ hl]
   exact h.block k hk hB
set_option maxHeartbeats 16000000 in
set_option maxRecDepth 100000 in
theorem rstep_adam (c : Cf) (m : Nat) (s : ByteArray) (ns nb st : Nat) (x : T3) (vP vV vM : Value) (b : Nat) (w : World) (MC : MeanC c m s ns nb) (c2 : c.ok2) (m3 : m < 3) (wb : WB c) (n0 : 0 < sn c (m + 1)) (hrule : c.rule = 1) (oP : OutI w b vP x.P) (oV : OutI w b vV x.V) (oM : OutI w b vM x.M) (pP : pats x.P) (pV : pats x.V) (pM : pats x.M) (lP : x.P.length = sn c (m + 1)) (lV : x.V.length = sn c (m + 1)) (lM : x.M.length = sn c (m + 1)) (st4 : st ≤ 1000) :
 Calls Tryz.prog 18 #[.agg (rcs c), .string s, .agg (D3c (st : Int) vP vV vM)] w fun e w' => ∃ uP uV uM, e = .returned (.agg (D3c ((st : Int) + 1) uP uV uM)) ∧ OutI w' w.heap.size uP (STEP c m s ns nb st x).P ∧ OutI w' w.heap.size uV (STEP c m s ns nb st x).V ∧ OutI w' w.heap.size uM (STEP c m s ns nb st x).M ∧ Below w.heap.size w w' := by
 obtain ⟨P, V, M⟩ := x
 dsimp only at oP oV oM pP pV pM lP lV lM
 obtain ⟨X, hX⟩ : ∃ X, X = rcs c := ⟨_, rfl⟩
 obtain ⟨n, hn⟩ : ∃ x, x = sn c (m + 1) := ⟨_, rfl⟩
 have n60 : n ≤ 60 := by rw [hn]; exact sn_le wb (m + 1) (by omega)
 obtain ⟨g, hg⟩ : ∃ g, g = GRD c m s P (PKN c ns st nb) nb := ⟨_, rfl⟩
 have gl : g.length = n := by rw [hg, hn]; exact GRD_len _ _ _ _ _ _
 have pg : pats g := by rw [hg]; exact GRD_pats _ _ _ _ _ _
 rw [← hn] at n0 lP lV lM
 obtain ⟨aP, cP, hvP, hP⟩ := row_at oP
 obtain ⟨aV, cV, hvV, hV⟩ := row_at oV
 obtain ⟨aM, cM, hvM, hM⟩ := row_at oM
 rw [lP] at hvP hP
 rw [lV] at hvV hV
 rw [lM] at hvM hM
 obtain ⟨gP, rfl, gPl, gPc⟩ := hP n0
 obtain ⟨gV, rfl, gVl, gVc⟩ := hV n0
 obtain ⟨gM, rfl, gMl, gMc⟩ := hM n0
 obtain ⟨sI, hsI⟩ : ∃ x : Int, x = (st : Int) := ⟨_, rfl⟩
 obtain ⟨Y, hY⟩ : ∃ Y, Y = D3c sI vP vV vM := ⟨_, rfl⟩
 obtain ⟨W0, hW0, b0, b1, bel, hws⟩ := two_blocks w X Y 24 52
 obtain ⟨W, hW⟩ : ∃ V, V = W0.alloc (.cells (D3c 0 (.slice none 0 0) (.slice none 0 0) (.slice none 0 0)) 52) := ⟨_, rfl⟩
 have a2 : Below W0.heap.size W0 W := by rw [hW]; exact (Below.refl _ _).alloc (Nat.le_refl _) _
 obtain ⟨Bc, hBc⟩ : ∃ B, B = w.heap.size := ⟨_, rfl⟩
 obtain ⟨Bs, hBs⟩ : ∃ B, B = w.heap.size + 1 := ⟨_, rfl⟩
 obtain ⟨R, hR⟩ : ∃ B, B = w.heap.size + 1 + 1 := ⟨_, rfl⟩
 have bW : Below w.heap.size w W := bel.trans (a2.mono bel.size)
 have C0 : Hid (W.heap[Bc]? = some (.cells X 24 (0, 0))) := by rw [hBc]; exact (a2.block _ (lt_of_heap b0)).trans b0
 have S0 : Hid (W.heap[Bs]? = some (.cells Y 52 (0, 0))) := by rw [hBs]; exact (a2.block _ (lt_of_heap b1)).trans b1
 have R0 : Hid (W.heap[R]? = some (.cells (D3c 0 (.slice none 0 0) (.slice none 0 0) (.slice none 0 0)) 52 (0, 0))) := by rw [hW, hR, show w.heap.size + 1 + 1 = W0.heap.size by omega]; exact heap_alloc_new W0 _
 have RW : Hid (w.heap.size ≤ R ∧ Bc < w.heap.size + 3 ∧ Bs < w.heap.size + 3 ∧ R < w.heap.size + 3 ∧ w.heap.size + 3 ≤ W.heap.size) := by
  have h1 : W.heap.size = W0.heap.size + 1 := by rw [hW]; simp
  show _ ∧ _; omega
 have WC : Hid (∀ i, i < n → W.cell? ⟨gP, i, none⟩ = some (.int .i64 (P.getD i 0)) ∧ W.cell? ⟨gV, i, none⟩ = some (.int .i64 (V.getD i 0)) ∧ W.cell? ⟨gM, i, none⟩ = some (.int .i64 (M.getD i 0))) := fun i hi => ⟨(bW.cell (p := ⟨gP, i, none⟩) gPl).trans (gPc i hi), (bW.cell (p := ⟨gV, i, none⟩) gVl).trans (gVc i hi), (bW.cell (p := ⟨gM, i, none⟩) gMl).trans (gMc i hi)⟩
 have WL : Hid (gP < W.heap.size ∧ gV < W.heap.size ∧ gM < W.heap.size) := ⟨Nat.lt_of_lt_of_le gPl bW.size, Nat.lt_of_lt_of_le gVl bW.size, Nat.lt_of_lt_of_le gMl bW.size⟩
 have BE : Hid (Below w.heap.size w W) := bW
 have HWW : Hid ((w.alloc (.cells X 24)).alloc (.cells Y 52) = W0) := hW0
 have HW : Hid _ := hW
 have MCc : Hid (∀ U, Below W.heap.size W U → Calls Tryz.prog 41 #[.agg X, .string s, .agg Y] U fun e w' => ∃ v, e = .returned v ∧ OutI w' U.heap.size v g ∧ Below U.heap.size U w') := fun U hU => by
  rw [hX, hY, hg, hsI]
  exact MC st P V M vP vV vM b U (owns_below (owns_below oP bW) (hU.mono (Nat.le_refl _))) (owns_below (owns_below oV bW) hU) (owns_below (owns_below oM bW) hU) pP (by rw [lP, hn]) st4
 obtain ⟨rt, hrt⟩ : ∃ x, x = RATE c (st : Int) := ⟨_, rfl⟩
 have brt : 0 ≤ rt ∧ rt < 4294967296 := by rw [hrt]; exact RATE_bd c _ c2
 have RTc : Hid (∀ U, Calls Tryz.prog 42 #[.agg X, .int .i64 sI] U fun e w' => e = .returned (.int .i64 rt) ∧ Below U.heap.size U w') := fun U => by rw [hX, hrt, hsI]; exact rrateAt_any c (st : Int) U c2
 obtain ⟨be, hbe⟩ : ∃ x, x = c.beta := ⟨_, rfl⟩
 obtain ⟨ga, hga⟩ : ∃ x, x = c.gamma := ⟨_, rfl⟩
 obtain ⟨sm, hsm⟩ : ∃ x, x = c.small := ⟨_, rfl⟩
 obtain ⟨rl, hrl⟩ : ∃ x, x = c.rule := ⟨_, rfl⟩
 have bbe : 0 ≤ be ∧ be < 4294967296 := by rw [hbe]; exact c2.beta
 have bga : 0 ≤ ga ∧ ga < 4294967296 := by rw [hga]; exact c2.gamma
 have bsm : 0 ≤ sm ∧ sm < 4294967296 := by rw [hsm]; exact c2.small
 have xc : X[16]? = some (.int .i64 be) ∧ X[17]? = some (.int .i64 ga) ∧ X[18]? = some (.int .i64 sm) ∧ X[7]? = some (.int .i64 rl) := by rw [hX, hbe, hga, hsm, hrl]; exact ⟨rfl, rfl, rfl, rfl⟩
 have XC : Hid _ := xc
 have yc : Y[0]? = some (.int .i64 sI) ∧ Y[1]? = some (.slice (some ⟨gP, 0, none⟩) n cP) ∧ Y[2]? = some (.slice (some ⟨gV, 0, none⟩) n cV) ∧ Y[3]? = some (.slice (some ⟨gM, 0, none⟩) n cM) := by rw [hY, hvP, hvV, hvM]; exact ⟨rfl, rfl, rfl, rfl⟩
 have YC : Hid _ := yc
 have sb : 0 ≤ sI ∧ sI ≤ 1000 := by omega
 obtain ⟨q1, hq1⟩ : ∃ x, x = POWN be (st + 1) := ⟨_, rfl⟩
 obtain ⟨q2, hq2⟩ : ∃ x, x = POWN ga (st + 1) := ⟨_, rfl⟩
 have bq1 : 0 ≤ q1 ∧ q1 < 4294967296 := by rw [hq1]; exact POWN_bd _ _
 have bq2 : 0 ≤ q2 ∧ q2 < 4294967296 := by rw [hq2]; exact POWN_bd _ _
 have Cq1 : Hid (∀ U, Calls Tryz.prog 44 #[.int .i64 be, .int .i64 (sI + 1)] U fun e w' => e = .returned (.int .i64 q1) ∧ Below U.heap.size U w') := fun U => by
  have h := raised_any be (st + 1) U bbe.1 bbe.2 (by omega)
  rw [hq1, hsI]; exact h
 have Cq2 : Hid (∀ U, Calls Tryz.prog 44 #[.int .i64 ga, .int .i64 (sI + 1)] U fun e w' => e = .returned (.int .i64 q2) ∧ Below U.heap.size U w') := fun U => by
  have h := raised_any ga (st + 1) U bga.1 bga.2 (by omega)
  rw [hq2, hsI]; exact h
 obtain ⟨d, hd⟩ : ∃ x, x = SUB 1065353216 q1 := ⟨_, rfl⟩
 obtain ⟨f, hf⟩ : ∃ x, x = SUB 1065353216 q2 := ⟨_, rfl⟩
 have bd' : 0 ≤ d ∧ d < 4294967296 := by rw [hd]; exact SUB_bd _ _ (by omega) (by omega)
 have bf' : 0 ≤ f ∧ f < 4294967296 := by rw [hf]; exact SUB_bd _ _ (by omega) (by omega)
 have Cd : Hid (∀ U, Calls Tryz.prog 43 #[.int .i64 1065353216, .int .i64 q1] U fun e w' => e = .returned (.int .i64 d) ∧ Below U.heap.size U w') := fun U => by rw [hd]; exact rsub_any _ _ U (by omega) (by omega) bq1.1 bq1.2
 have Cf' : Hid (∀ U, Calls Tryz.prog 43 #[.int .i64 1065353216, .int .i64 q2] U fun e w' => e = .returned (.int .i64 f) ∧ Below U.heap.size U w') := fun U => by rw [hf]; exact rsub_any _ _ U (by omega) (by omega) bq2.1 bq2.2
 obtain ⟨FP, hFP⟩ : ∃ F : Nat → Int, F = ADP1 be ga sm rt st P V M g := ⟨_, rfl⟩
 obtain ⟨FV, hFV⟩ : ∃ F : Nat → Int, F = ADV1 be V g := ⟨_, rfl⟩
 obtain ⟨FM, hFM⟩ : ∃ F : Nat → Int, F = ADW1 ga M g := ⟨_, rfl⟩
 have RES : Hid ((STEP c m s ns nb st ⟨P, V, M⟩).P = (List.range n).map FP ∧ (STEP c m s ns nb st ⟨P, V, M⟩).V = (List.range n).map FV ∧ (STEP c m s ns nb st ⟨P, V, M⟩).M = (List.range n).map FM) := by
  unfold STEP
  dsimp only
  rw [← hg]
  unfold NP NV NM
  rw [if_pos hrule, if_pos hrule, if_pos hrule, hFP, hFV, hFM, ← gl, hbe, hrt, hga, hsm]
  exact ⟨rfl, rfl, rfl⟩
 have FVe : Hid (∀ k, FV k = ADD (MUL be (V.getD k 0)) (MUL (SUB 1065353216 be) (g.getD k 0))) := fun k => by rw [hFV]; rfl
 have FMe : Hid (∀ k, FM k = ADD (MUL ga (M.getD k 0)) (MUL (SUB 1065353216 ga) (MUL (g.getD k 0) (g.getD k 0)))) := fun k => by rw [hFM]; rfl
 have FPe : Hid (∀ k, FP k = SUB (P.getD k 0) (DIV (MUL rt (DIV (FV k) d)) (ADD (SQRT (DIV (FM k) f)) sm))) := fun k => by rw [hFP, hFV, hFM, hd, hf, hq1, hq2]; rfl
 have IX : Hid ((Tryz.prog.info? 24).map (·.size) = some X.size) := by rw [hX]; exact infoC c
 have IY : Hid ((Tryz.prog.info? 52).map (·.size) = some Y.size) := by rw [hY]; exact infoS3 _ _ _ _
 have hr1 : (rl == 1) = true := by rw [hrl]; simpa using hrule
 have HBc : Hid _ := hBc
 have HBs : Hid _ := hBs
 have HR : Hid _ := hR
 have PPg : Hid _ := pg
 have PPP : Hid _ := pP
 have PPV : Hid _ := pV
 have PPM : Hid _ := pM
 have GL : Hid _ := gl
 obtain ⟨j0, ji, jz0, jz1, jz2⟩ := info_three Tryz.infoI
 have INF : Hid (_ ∧ _ ∧ _ ∧ _) := ⟨ji, jz0, jz1, jz2⟩
 rw [RES.out.1, RES.out.2.1, RES.out.2.2, ← hX, ← hsI, ← hY]
 clear RES hX hn hg hsI hY hW0 b0 b1 bel hws hW a2 hBc hBs hR bW hrt hbe hga hsm hrl xc yc hq1 hq2 hd hf hFP hFV hFM hrule MC c2 wb oP oV oM pP pV pM lP lV lM hvP hvV hvM hP hV hM gPl gVl gMl gPc gVc gMc ji jz0 jz1 jz2 gl pg m3
 go_enter Tryz.func18, Tryz.ntmps18
 go_upto_region 1 with fail
 rw [show (w.alloc (.cells X 24)).alloc (.cells Y 52) = W0 from HWW.out]
 rw [show W0.alloc (.cells #[.int .i64 0, .slice none 0 0, .slice none 0 0, .slice none 0 0] 52) = W from HW.out.symm]
 rw [← HR.out, ← HBs.out, ← HBc.out]
 go_upto_region 2 with (first
  | (refine wpList_load_row rfl 24 _ rfl Bc rfl 24 X (0, 0) _ C0.out Tryz.underlying24 rfl IX.out ?_)
  | (refine wpList_load_row rfl 52 _ rfl Bs rfl 52 Y (0, 0) _ S0.out Tryz.underlying52 rfl IY.out ?_)
  | (go_at_call 41; refine (MCc.out _ (Below.refl _ _)).mono ?_; rintro e w1 ⟨vg, rfl, og, b1⟩
     have B1 : Hid (Below W.heap.size W w1) := b1
     have OG : Hid _ := og
     have C1 : Hid (w1.heap[Bc]? = some (.cells X 24 (0, 0))) := (b1.block _ (lt_of_heap C0.out)).trans C0.out
     have S1 : Hid (w1.heap[Bs]? = some (.cells Y 52 (0, 0))) := (b1.block _ (lt_of_heap S0.out)).trans S0.out
     have y1 : w1.cell? ⟨Bs, 0, none⟩ = some (.int .i64 sI) := (cell_of_block S1.out 0).trans YC.out.1
     clear b1 og))
 obtain ⟨ag, cg, hvg, hgc⟩ := row_at OG.out
 rw [GL.out] at hvg hgc
 obtain ⟨gg, rfl, ggl, ggc⟩ := hgc n0
 subst hvg
 have GG : Hid (gg < w1.heap.size ∧ ∀ i, i < n → w1.cell? ⟨gg, i, none⟩ = some (.int .i64 (g.getD i 0))) := ⟨ggl, ggc⟩
 have ALL : Hid (∀ U, Below w1.heap.size w1 U → U.heap[Bc]? = some (.cells X 24 (0, 0)) ∧ U.heap[Bs]? = some (.cells Y 52 (0, 0)) ∧ U.heap[R]? = some (.cells (D3c 0 (.slice none 0 0) (.slice none 0 0) (.slice none 0 0)) 52 (0, 0)) ∧ Below w.heap.size w U ∧ (∀ i, i < n → U.cell? ⟨gP, i, none⟩ = some (.int .i64 (P.getD i 0)) ∧ U.cell? ⟨gV, i, none⟩ = some (.int .i64 (V.getD i 0)) ∧ U.cell? ⟨gM, i, none⟩ = some (.int .i64 (M.getD i 0)) ∧ U.cell? ⟨gg, i, none⟩ = some (.int .i64 (g.getD i 0)))) := fun U hU => by
  have hb : Below W.heap.size W U := B1.out.trans (hU.mono B1.out.size)
  have hb2 : Below w.heap.size w U := BE.out.trans (hb.mono BE.out.size)
  exact ⟨(hb.block _ (lt_of_heap C0.out)).trans C0.out, (hb.block _ (lt_of_heap S0.out)).trans S0.out, (hb.block _ (lt_of_heap R0.out)).trans R0.out, hb2, fun i hi => ⟨(hb.cell (p := ⟨gP, i, none⟩) WL.out.1).trans (WC.out i hi).1, (hb.cell (p := ⟨gV, i, none⟩) WL.out.2.1).trans (WC.out i hi).2.1, (hb.cell (p := ⟨gM, i, none⟩) WL.out.2.2).trans (WC.out i hi).2.2, (hU.cell (p := ⟨gg, i, none⟩) GG.out.1).trans (GG.out.2 i hi)⟩⟩
 clear hgc ggl ggc OG MCc
 go_upto_region 3 with (first
  | (refine wpList_load_row rfl 24 _ rfl Bc rfl 24 X (0, 0) _ C1.out Tryz.underlying24 rfl IX.out ?_)
  | (go_at_call 42; refine (RTc.out _).mono ?_; rintro e w2 ⟨rfl, b2⟩
     have B2 : Hid (Below w1.heap.size w1 w2) := b2
     have y2 : w2.cell? ⟨Bs, 0, none⟩ = some (.int .i64 sI) := (cell_of_block (ALL.out _ b2).2.1 0).trans YC.out.1
     have e2 : w2.cell? ⟨Bc, 16, none⟩ = some (.int .i64 be) := (cell_of_block (ALL.out _ b2).1 16).trans XC.out.1
     clear b2))
 go_upto_region 4 with (first
  | (go_at_call 44; refine (Cq1.out _).mono ?_; rintro e w3 ⟨rfl, b3⟩
     have B3 : Hid (Below w1.heap.size w1 w3) := B2.out.trans (b3.mono B2.out.size)
     clear b3)
  | (go_at_call 43; refine (Cd.out _).mono ?_; rintro e w4 ⟨rfl, b4⟩
     have B4 : Hid (Below w1.heap.size w1 w4) := B3.out.trans (b4.mono B3.out.size)
     have y4 : w4.cell? ⟨Bs, 0, none⟩ = some (.int .i64 sI) := (cell_of_block (ALL.out _ B4.out).2.1 0).trans YC.out.1
     have e4 : w4.cell? ⟨Bc, 17, none⟩ = some (.int .i64 ga) := (cell_of_block (ALL.out _ B4.out).1 17).trans XC.out.2.1
     clear b4))
 go_upto_region 5 with (first
  | (go_at_call 44; refine (Cq2.out _).mono ?_; rintro e w5 ⟨rfl, b5⟩
     have B5 : Hid (Below w1.heap.size w1 w5) := B4.out.trans (b5.mono B4.out.size)
     clear b5)
  | (go_at_call 43; refine (Cf'.out _).mono ?_; rintro e w6 ⟨rfl, b6⟩
     have B6 : Hid (Below w1.heap.size w1 w6) := B5.out.trans (b6.mono B5.out.size)
     have y6 : w6.cell? ⟨Bs, 0, none⟩ = some (.int .i64 sI) := (cell_of_block (ALL.out _ B6.out).2.1 0).trans YC.out.1
     clear b6))
 obtain ⟨B, hB⟩ : ∃ x, x = w6.heap.size := ⟨_, rfl⟩
 obtain ⟨W5, hW5⟩ : ∃ x, x = w6.alloc (.cells (D3c (sI + 1) (.slice none 0 0) (.slice none 0 0) (.slice none 0 0)) 52) := ⟨_, rfl⟩
 have a5 : Below w6.heap.size w6 W5 := by rw [hW5]; exact (Below.refl _ _).alloc (Nat.le_refl _) _
 obtain ⟨base, hbase⟩ : ∃ x, x = W5.heap.size := ⟨_, rfl⟩
 have z5 : W5.heap.size = w6.heap.size + 1 := by rw [hW5]; simp
 have D5 : Hid (D3 B base (sI + 1) (.slice none 0 0) (.slice none 0 0) (.slice none 0 0) [] [] [] W5) := ⟨by rw [hW5, hB]; exact heap_alloc_new w6 _, nil_own _ _, nil_own _ _, nil_own _ _, apart_nil _, apart_nil _, apart_nil _, by omega, by omega⟩
 have B7 : Hid (Below w1.heap.size w1 W5) := B6.out.trans (a5.mono B6.out.size)
 have HB : Hid _ := hB
 have HW5 : Hid _ := hW5
 have BS : Hid (W5.heap.size ≤ base ∧ base = W5.heap.size) := by show _ ∧ _; omega
 have wB : Hid (w.heap.size ≤ B ∧ w.heap.size ≤ base) := by
  have h1 := (ALL.out _ B6.out).2.2.2.1.size
  show _ ∧ _; omega
 have NEB : Hid (∀ k, k < w1.heap.size → k ≠ B) := fun k hk => by have h1 := B6.out.size; omega
 have F5 : Hid (∀ U, But (fun k => k = B) W5 U → U.heap[Bc]? = some (.cells X 24 (0, 0)) ∧ U.heap[Bs]? = some (.cells Y 52 (0, 0)) ∧ U.heap[R]? = some (.cells (D3c 0 (.slice none 0 0) (.slice none 0 0) (.slice none 0 0)) 52 (0, 0)) ∧ (∀ i, i < n → U.cell? ⟨gP, i, none⟩ = some (.int .i64 (P.getD i 0)) ∧ U.cell? ⟨gV, i, none⟩ = some (.int .i64 (V.getD i 0)) ∧ U.cell? ⟨gM, i, none⟩ = some (.int .i64 (M.getD i 0)) ∧ U.cell? ⟨gg, i, none⟩ = some (.int .i64 (g.getD i 0)))) := fun U hU => by
  have h := ALL.out _ B7.out
  have s1 := B1.out.size
  have s7 := B7.out.size
  have q : ∀ k, k < w1.heap.size → k < W5.heap.size ∧ ¬ k = B := fun k hk => ⟨by omega, NEB.out k hk⟩
  have k1 := q Bc (lt_of_heap C1.out)
  have k2 := q Bs (lt_of_heap S1.out)
  have k3 := q R (lt_of_heap ((B1.out.block _ (lt_of_heap R0.out)).trans R0.out))
  have k4 := q gP (by have := WL.out.1; omega)
  have k5 := q gV (by have := WL.out.2.1; omega)
  have k6 := q gM (by have := WL.out.2.2; omega)
  have k7 := q gg GG.out.1
  exact ⟨(hU.block _ k1.1 k1.2).trans h.1, (hU.block _ k2.1 k2.2).trans h.2.1, (hU.block _ k3.1 k3.2).trans h.2.2.1, fun i hi => ⟨(hU.cell k4.1 k4.2 i).trans (h.2.2.2.2 i hi).1, (hU.cell k5.1 k5.2 i).trans (h.2.2.2.2 i hi).2.1, (hU.cell k6.1 k6.2 i).trans (h.2.2.2.2 i hi).2.2.1, (hU.cell k7.1 k7.2 i).trans (h.2.2.2.2 i hi).2.2.2⟩⟩
 have BE7 : Hid (Below w.heap.size w W5) := (ALL.out _ B7.out).2.2.2.1
 clear hB hW5 a5 hbase z5
 go_upto_region 6 with fail
 rw [show w6.alloc (.cells #[.int .i64 (sI + 1), .slice none 0 0, .slice none 0 0, .slice none 0 0] 52) = W5 from HW5.out.symm]
 rw [← HB.out]
 clear y1 y2 e2 y4 e4 y6 HB HW5 HWW HW C0 S0 R0 C1 S1 B1 B2 B3 B4 B5 B6 B7 ALL GG WC WL NEB BE Cq1 Cq2 Cd Cf' RTc HBc HBs HR
 go_wp2
 go_loopw [12] (fun iv wr => ∃ (i : Nat) (tP tV tM : Value), i ≤ n ∧ iv = .int .i64 i ∧ Hid (D3 B base (sI + 1) tP tV tM ((List.range i).map FP) ((List.range i).map FV) ((List.range i).map FM) wr) ∧ Hid (But (fun k => k = B) W5 wr) ∧ Hid (Below w.heap.size w wr)) (fun iv _ => n - (intOf iv).toNat)
 case atStart => exact ⟨0, _, _, _, by omega, rfl, D5.out, But.refl _ _, BE7.out⟩
 case round =>
  clear D5 BE7
  obtain ⟨i, tP, tV, tM, hi, rfl, HD, UW, BW⟩ := hrel
  by_cases hlt : i < n
  · have FC := F5.out wr UW.out
    have CE : Hid (∀ U, Below wr.heap.size wr U → (U.cell? ⟨Bc, 16, none⟩ = some (.int .i64 be) ∧ U.cell? ⟨Bc, 17, none⟩ = some (.int .i64 ga) ∧ U.cell? ⟨Bc, 18, none⟩ = some (.int .i64 sm) ∧ U.cell? ⟨Bc, 7, none⟩ = some (.int .i64 rl)) ∧ (U.cell? ⟨Bs, 1, none⟩ = some (.slice (some ⟨gP, 0, none⟩) n cP) ∧ U.cell? ⟨Bs, 2, none⟩ = some (.slice (some ⟨gV, 0, none⟩) n cV) ∧ U.cell? ⟨Bs, 3, none⟩ = some (.slice (some ⟨gM, 0, none⟩) n cM)) ∧ (U.cell? ⟨gP, i, none⟩ = some (.int .i64 (P.getD i 0)) ∧ U.cell? ⟨gV, i, none⟩ = some (.int .i64 (V.getD i 0)) ∧ U.cell? ⟨gM, i, none⟩ = some (.int .i64 (M.getD i 0)) ∧ U.cell? ⟨gg, i, none⟩ = some (.int .i64 (g.getD i 0)))) := fun U hU => by
     have hb : But (fun k => k = B) W5 U := UW.out.trans (But.below hU)
     obtain ⟨f1, f2, _, f4⟩ := F5.out U hb
     exact ⟨⟨(cell_of_block f1 _).trans XC.out.1, (cell_of_block f1 _).trans XC.out.2.1, (cell_of_block f1 _).trans XC.out.2.2.1, (cell_of_block f1 _).trans XC.out.2.2.2⟩, ⟨(cell_of_block f2 _).trans YC.out.2.1, (cell_of_block f2 _).trans YC.out.2.2.1, (cell_of_block f2 _).trans YC.out.2.2.2⟩, f4 i hlt⟩
    clear FC
    have bPi := pats_at PPP.out i
    have bVi := pats_at PPV.out i
    have bMi := pats_at PPM.out i
    have bgi := pats_at PPg.out i
    have e1 : Hid _ := FVe.out i
    have e2 : Hid _ := FMe.out i
    have e3 : Hid _ := FPe.out i
    obtain ⟨Pi, hPi⟩ : ∃ x, x = P.getD i 0 := ⟨_, rfl⟩
    obtain ⟨Vi, hVi⟩ : ∃ x, x = V.getD i 0 := ⟨_, rfl⟩
    obtain ⟨Mi, hMi⟩ : ∃ x, x = M.getD i 0 := ⟨_, rfl⟩
    obtain ⟨gi, hgi⟩ : ∃ x, x = g.getD i 0 := ⟨_, rfl⟩
    simp only [← hPi, ← hVi, ← hMi, ← hgi] at CE bPi bVi bMi bgi e1 e2 e3
    have K9 : Hid (∀ U, Below wr.heap.size wr U → U.cell? ⟨Bc, 16, none⟩ = some (.int .i64 be) ∧ U.cell? ⟨Bs, 2, none⟩ = some (.slice (some ⟨gV, 0, none⟩) n cV) ∧ U.cell? ⟨gV, i, none⟩ = some (.int .i64 Vi) ∧ U.cell? ⟨gg, i, none⟩ = some (.int .i64 gi)) := fun U h => ⟨(CE.out U h).1.1, (CE.out U h).2.1.2.1, (CE.out U h).2.2.2.1, (CE.out U h).2.2.2.2.2⟩
    have K14 : Hid (∀ U, Below wr.heap.size wr U → U.cell? ⟨Bc, 17, none⟩ = some (.int .i64 ga) ∧ U.cell? ⟨Bs, 3, none⟩ = some (.slice (some ⟨gM, 0, none⟩) n cM) ∧ U.cell? ⟨gM, i, none⟩ = some (.int .i64 Mi) ∧ U.cell? ⟨gg, i, none⟩ = some (.int .i64 gi)) := fun U h => ⟨(CE.out U h).1.2.1, (CE.out U h).2.1.2.2, (CE.out U h).2.2.2.2.1, (CE.out U h).2.2.2.2.2⟩
    have K15 : Hid (∀ U, Below wr.heap.size wr U → U.cell? ⟨Bc, 18, none⟩ = some (.int .i64 sm)) := fun U h => (CE.out U h).1.2.2.1
    obtain ⟨m1, hm1⟩ : ∃ x, x = MUL be Vi := ⟨_, rfl⟩
    have bm1 : 0 ≤ m1 ∧ m1 < 4294967296 := by rw [hm1]; exact MUL_bd' _ _
    have Cm1 : Hid (∀ U, Calls Tryz.prog 39 #[.int .i64 be, .int .i64 Vi] U fun e w' => e = .returned (.int .i64 m1) ∧ Below U.heap.size U w') := fun U => by rw [hm1]; exact rmul_any _ _ U bbe.1 bbe.2 bVi.1 bVi.2
    have Hm1 : Hid _ := hm1
    obtain ⟨v0, hv0⟩ : ∃ x, x = ADD m1 gi := ⟨_, rfl⟩
    have bv0 : 0 ≤ v0 ∧ v0 < 4294967296 := by rw [hv0]; exact ADD_bd _ _ bm1.1 bm1.2 bgi.1 bgi.2
    have Cv0 : Hid (∀ U, Calls Tryz.prog 45 #[.int .i64 m1, .int .i64 gi] U fun e w' => e = .returned (.int .i64 v0) ∧ Below U.heap.size U w') := fun U => by rw [hv0]; exact radd_any _ _ U bm1.1 bm1.2 bgi.1 bgi.2
    have Hv0 : Hid _ := hv0
    obtain ⟨y0, hy0⟩ : ∃ x, x = MUL rt v0 := ⟨_, rfl⟩
    have by0 : 0 ≤ y0 ∧ y0 < 4294967296 := by rw [hy0]; exact MUL_bd' _ _
    have Cy0 : Hid (∀ U, Calls Tryz.prog 39 #[.int .i64 rt, .int .i64 v0] U fun e w' => e = .returned (.int .i64 y0) ∧ Below U.heap.size U w') := fun U => by rw [hy0]; exact rmul_any _ _ U brt.1 brt.2 bv0.1 bv0.2
    have Hy0 : Hid _ := hy0
    obtain ⟨ob, hob⟩ : ∃ x, x = SUB 1065353216 be := ⟨_, rfl⟩
    have bob : 0 ≤ ob ∧ ob < 4294967296 := by rw [hob]; exact SUB_bd _ _ (by omega) (by omega)
    have Cob : Hid (∀ U, Calls Tryz.prog 43 #[.int .i64 1065353216, .int .i64 be] U fun e w' => e = .returned (.int .i64 ob) ∧ Below U.heap.size U w') := fun U => by rw [hob]; exact rsub_any _ _ U (by omega) (by omega) bbe.1 bbe.2
    have Hob : Hid _ := hob
    obtain ⟨m2, hm2⟩ : ∃ x, x = MUL ob gi := ⟨_, rfl⟩
    have bm2 : 0 ≤ m2 ∧ m2 < 4294967296 := by rw [hm2]; exact MUL_bd' _ _
    have Cm2 : Hid (∀ U, Calls Tryz.prog 39 #[.int .i64 ob, .int .i64 gi] U fun e w' => e = .returned (.int .i64 m2) ∧ Below U.heap.size U w') := fun U => by rw [hm2]; exact rmul_any _ _ U bob.1 bob.2 bgi.1 bgi.2
    have Hm2 : Hid _ := hm2
    obtain ⟨v1, hv1⟩ : ∃ x, x = ADD m1 m2 := ⟨_, rfl⟩
    have bv1 : 0 ≤ v1 ∧ v1 < 4294967296 := by rw [hv1]; exact ADD_bd _ _ bm1.1 bm1.2 bm2.1 bm2.2
    have Cv1 : Hid (∀ U, Calls Tryz.prog 45 #[.int .i64 m1, .int .i64 m2] U fun e w' => e = .returned (.int .i64 v1) ∧ Below U.heap.size U w') := fun U => by rw [hv1]; exact radd_any _ _ U bm1.1 bm1.2 bm2.1 bm2.2
    have Hv1 : Hid _ := hv1
    obtain ⟨m3, hm3⟩ : ∃ x, x = MUL ga Mi := ⟨_, rfl⟩
    have bm3 : 0 ≤ m3 ∧ m3 < 4294967296 := by rw [hm3]; exact MUL_bd' _ _
    have Cm3 : Hid (∀ U, Calls Tryz.prog 39 #[.int .i64 ga, .int .i64 Mi] U fun e w' => e = .returned (.int .i64 m3) ∧ Below U.heap.size U w') := fun U => by rw [hm3]; exact rmul_any _ _ U bga.1 bga.2 bMi.1 bMi.2
    have Hm3 : Hid _ := hm3
    obtain ⟨og, hog⟩ : ∃ x, x = SUB 1065353216 ga := ⟨_, rfl⟩
    have bog : 0 ≤ og ∧ og < 4294967296 := by rw [hog]; exact SUB_bd _ _ (by omega) (by omega)
    have Cog : Hid (∀ U, Calls Tryz.prog 43 #[.int .i64 1065353216, .int .i64 ga] U fun e w' => e = .returned (.int .i64 og) ∧ Below U.heap.size U w') := fun U => by rw [hog]; exact rsub_any _ _ U (by omega) (by omega) bga.1 bga.2
    have Hog : Hid _ := hog
    obtain ⟨g2, hg2⟩ : ∃ x, x = MUL gi gi := ⟨_, rfl⟩
    have bg2 : 0 ≤ g2 ∧ g2 < 4294967296 := by rw [hg2]; exact MUL_bd' _ _
    have Cg2 : Hid (∀ U, Calls Tryz.prog 39 #[.int .i64 gi, .int .i64 gi] U fun e w' => e = .returned (.int .i64 g2) ∧ Below U.heap.size U w') := fun U => by rw [hg2]; exact rmul_any _ _ U bgi.1 bgi.2 bgi.1 bgi.2
    have Hg2 : Hid _ := hg2
    obtain ⟨m4, hm4⟩ : ∃ x, x = MUL og g2 := ⟨_, rfl⟩
    have bm4 : 0 ≤ m4 ∧ m4 < 4294967296 := by rw [hm4]; exact MUL_bd' _ _
    have Cm4 : Hid (∀ U, Calls Tryz.prog 39 #[.int .i64 og, .int .i64 g2] U fun e w' => e = .returned (.int .i64 m4) ∧ Below U.heap.size U w') := fun U => by rw [hm4]; exact rmul_any _ _ U bog.1 bog.2 bg2.1 bg2.2
    have Hm4 : Hid _ := hm4
    obtain ⟨w1v, hw1v⟩ : ∃ x, x = ADD m3 m4 := ⟨_, rfl⟩
    have bw1v : 0 ≤ w1v ∧ w1v < 4294967296 := by rw [hw1v]; exact ADD_bd _ _ bm3.1 bm3.2 bm4.1 bm4.2
    have Cw1v : Hid (∀ U, Calls Tryz.prog 45 #[.int .i64 m3, .int .i64 m4] U fun e w' => e = .returned (.int .i64 w1v) ∧ Below U.heap.size U w') := fun U => by rw [hw1v]; exact radd_any _ _ U bm3.1 bm3.2 bm4.1 bm4.2
    have Hw1v : Hid _ := hw1v
    obtain ⟨dv, hdv⟩ : ∃ x, x = DIV v1 d := ⟨_, rfl⟩
    have bdv : 0 ≤ dv ∧ dv < 4294967296 := by rw [hdv]; exact DIV_bd _ _
    have Cdv : Hid (∀ U, Calls Tryz.prog 46 #[.int .i64 v1, .int .i64 d] U fun e w' => e = .returned (.int .i64 dv) ∧ Below U.heap.size U w') := fun U => by rw [hdv]; exact rdiv_any _ _ U bv1.1 bv1.2 bd'.1 bd'.2
    have Hdv : Hid _ := hdv
    obtain ⟨up, hup⟩ : ∃ x, x = MUL rt dv := ⟨_, rfl⟩
    have bup : 0 ≤ up ∧ up < 4294967296 := by rw [hup]; exact MUL_bd' _ _
    have Cup : Hid (∀ U, Calls Tryz.prog 39 #[.int .i64 rt, .int .i64 dv] U fun e w' => e = .returned (.int .i64 up) ∧ Below U.heap.size U w') := fun U => by rw [hup]; exact rmul_any _ _ U brt.1 brt.2 bdv.1 bdv.2
    have Hup : Hid _ := hup
    obtain ⟨dw, hdw⟩ : ∃ x, x = DIV w1v f := ⟨_, rfl⟩
    have bdw : 0 ≤ dw ∧ dw < 4294967296 := by rw [hdw]; exact DIV_bd _ _
    have Cdw : Hid (∀ U, Calls Tryz.prog 46 #[.int .i64 w1v, .int .i64 f] U fun e w' => e = .returned (.int .i64 dw) ∧ Below U.heap.size U w') := fun U => by rw [hdw]; exact rdiv_any _ _ U bw1v.1 bw1v.2 bf'.1 bf'.2
    have Hdw : Hid _ := hdw
    obtain ⟨sq, hsq⟩ : ∃ x, x = SQRT dw := ⟨_, rfl⟩
    have bsq : 0 ≤ sq ∧ sq < 4294967296 := by rw [hsq]; exact SQRT_bd _ bdw
    have Csq : Hid (∀ U, Calls Tryz.prog 47 #[.int .i64 dw] U fun e w' => e = .returned (.int .i64 sq) ∧ Below U.heap.size U w') := fun U => by rw [hsq]; exact rsqrt_any _ U bdw.1 bdw.2
    have Hsq : Hid _ := hsq
    obtain ⟨dn, hdn⟩ : ∃ x, x = ADD sq sm := ⟨_, rfl⟩
    have bdn : 0 ≤ dn ∧ dn < 4294967296 := by rw [hdn]; exact ADD_bd _ _ bsq.1 bsq.2 bsm.1 bsm.2
    have Cdn : Hid (∀ U, Calls Tryz.prog 45 #[.int .i64 sq, .int .i64 sm] U fun e w' => e = .returned (.int .i64 dn) ∧ Below U.heap.size U w') := fun U => by rw [hdn]; exact radd_any _ _ U bsq.1 bsq.2 bsm.1 bsm.2
    have Hdn : Hid _ := hdn
    obtain ⟨y1, hy1⟩ : ∃ x, x = DIV up dn := ⟨_, rfl⟩
    have by1 : 0 ≤ y1 ∧ y1 < 4294967296 := by rw [hy1]; exact DIV_bd _ _
    have Cy1 : Hid (∀ U, Calls Tryz.prog 46 #[.int .i64 up, .int .i64 dn] U fun e w' => e = .returned (.int .i64 y1) ∧ Below U.heap.size U w') := fun U => by rw [hy1]; exact rdiv_any _ _ U bup.1 bup.2 bdn.1 bdn.2
    have Hy1 : Hid _ := hy1
    obtain ⟨pn, hpn⟩ : ∃ x, x = SUB Pi y1 := ⟨_, rfl⟩
    have bpn : 0 ≤ pn ∧ pn < 4294967296 := by rw [hpn]; exact SUB_bd _ _ bPi.1 bPi.2
    have Cpn : Hid (∀ U, Calls Tryz.prog 43 #[.int .i64 Pi, .int .i64 y1] U fun e w' => e = .returned (.int .i64 pn) ∧ Below U.heap.size U w') := fun U => by rw [hpn]; exact rsub_any _ _ U bPi.1 bPi.2 by1.1 by1.2
    have Hpn : Hid _ := hpn
    have EV : Hid (FV i = v1) := by show _ = _; rw [e1.out, hv1, hm1, hm2, hob]
    have EM : Hid (FM i = w1v) := by show _ = _; rw [e2.out, hw1v, hm3, hm4, hog, hg2]
    have EP : Hid (FP i = pn) := by show _ = _; rw [e3.out, EV.out, EM.out, hpn, hy1, hup, hdv, hdn, hsq, hdw]
    clear hPi hVi hMi hgi e1 e2 e3 hm1 hv0 hy0 hob hm2 hv1 hm3 hog hg2 hm4 hw1v hdv hup hdw hsq hdn hy1 hpn
    have SP : Hid ((List.range (i + 1)).map FP = (List.range i).map FP ++ [pn]) := by show _ = _; rw [List.range_succ, List.map_append, ← EP.out]; rfl
    have SV : Hid ((List.range (i + 1)).map FV = (List.range i).map FV ++ [v1]) := by show _ = _; rw [List.range_succ, List.map_append, ← EV.out]; rfl
    have SM' : Hid ((List.range (i + 1)).map FM = (List.range i).map FM ++ [w1v]) := by show _ = _; rw [List.range_succ, List.map_append, ← EM.out]; rfl
    have X0 : Hid (Below wr.heap.size wr wr) := Below.refl _ _
    have il : (i : Int) < (n : Int) := by omega
    have i0 : (0 : Int) ≤ (i : Int) := by omega
    go_upto_region 9 with fail
    go_region_held3 (fun w' => w'.cell? ⟨Bc, 16, none⟩ = some (.int .i64 be) ∧ w'.cell? ⟨Bs, 2, none⟩ = some (.slice (some ⟨gV, 0, none⟩) n cV) ∧ w'.cell? ⟨gV, i, none⟩ = some (.int .i64 Vi) ∧ w'.cell? ⟨gg, i, none⟩ = some (.int .i64 gi)) (first | exact K9.out _ X0.out.drew | exact K9.out _ X1.out | exact K9.out _ X2.out) (first
     | (go_at_call 39; refine (Cm1.out _).mono ?_; rintro e x1 ⟨rfl, bb⟩
        have X1 : Hid (Below wr.heap.size wr x1) := (X0.out.drew).trans (bb.mono (X0.out.drew).size)

        clear bb)
     | (go_at_call 45; refine (Cv0.out _).mono ?_; rintro e x2 ⟨rfl, bb⟩
        have X2 : Hid (Below wr.heap.size wr x2) := X1.out.trans (bb.mono X1.out.size)
        have k3 := (CE.out _ X2.out).2.1.2.2
        have k4 := (CE.out _ X2.out).2.2.2.2.1
        clear bb))
    rename_i hHeld
    clear hHeld
    go_upto_region 13 with (first
     | (go_at_call 39; refine (Cy0.out _).mono ?_; rintro e x3 ⟨rfl, bb⟩
        have X3 : Hid (Below wr.heap.size wr x3) := X2.out.trans (bb.mono X2.out.size)
        have k7 := (CE.out _ X3.out).1.2.2.2
        clear bb))
    clear k3 k4 k7
    go_region_held3 (fun w' => w'.cell? ⟨Bc, 16, none⟩ = some (.int .i64 be) ∧ w'.cell? ⟨Bs, 2, none⟩ = some (.slice (some ⟨gV, 0, none⟩) n cV) ∧ w'.cell? ⟨gV, i, none⟩ = some (.int .i64 Vi) ∧ w'.cell? ⟨gg, i, none⟩ = some (.int .i64 gi)) (first | exact K9.out _ X3.out.drew | exact K9.out _ X4.out | exact K9.out _ X5.out | exact K9.out _ X6.out | exact K9.out _ X7.out) (first
     | (go_at_call_of 39 (Value.int IntKind.i64 be); refine (Cm1.out _).mono ?_; rintro e x4 ⟨rfl, bb⟩
        have X4 : Hid (Below wr.heap.size wr x4) := (X3.out.drew).trans (bb.mono (X3.out.drew).size)

        clear bb)
     | (go_at_call 43; refine (Cob.out _).mono ?_; rintro e x5 ⟨rfl, bb⟩
        have X5 : Hid (Below wr.heap.size wr x5) := X4.out.trans (bb.mono X4.out.size)

        clear bb)
     | (go_at_call_of 39 (Value.int IntKind.i64 ob); refine (Cm2.out _).mono ?_; rintro e x6 ⟨rfl, bb⟩
        have X6 : Hid (Below wr.heap.size wr x6) := X5.out.trans (bb.mono X5.out.size)

        clear bb)
     | (go_at_call 45; refine (Cv1.out _).mono ?_; rintro e x7 ⟨rfl, bb⟩
        have X7 : Hid (Below wr.heap.size wr x7) := X6.out.trans (bb.mono X6.out.size)

        clear bb))
    rename_i hHeld
    clear hHeld
    go_upto_region 14 with fail
    go_region_held3 (fun w' => w'.cell? ⟨Bc, 17, none⟩ = some (.int .i64 ga) ∧ w'.cell? ⟨Bs, 3, none⟩ = some (.slice (some ⟨gM, 0, none⟩) n cM) ∧ w'.cell? ⟨gM, i, none⟩ = some (.int .i64 Mi) ∧ w'.cell? ⟨gg, i, none⟩ = some (.int .i64 gi)) (first | exact K14.out _ X7.out.drew | exact K14.out _ X8.out | exact K14.out _ X9.out | exact K14.out _ X10.out | exact K14.out _ X11.out | exact K14.out _ X12.out) (first
     | (go_at_call_of 39 (Value.int IntKind.i64 ga); refine (Cm3.out _).mono ?_; rintro e x8 ⟨rfl, bb⟩
        have X8 : Hid (Below wr.heap.size wr x8) := (X7.out.drew).trans (bb.mono (X7.out.drew).size)

        clear bb)
     | (go_at_call 43; refine (Cog.out _).mono ?_; rintro e x9 ⟨rfl, bb⟩
        have X9 : Hid (Below wr.heap.size wr x9) := X8.out.trans (bb.mono X8.out.size)

        clear bb)
     | (go_at_call_of 39 (Value.int IntKind.i64 gi); refine (Cg2.out _).mono ?_; rintro e x10 ⟨rfl, bb⟩
        have X10 : Hid (Below wr.heap.size wr x10) := X9.out.trans (bb.mono X9.out.size)

        clear bb)
     | (go_at_call_of 39 (Value.int IntKind.i64 og); refine (Cm4.out _).mono ?_; rintro e x11 ⟨rfl, bb⟩
        have X11 : Hid (Below wr.heap.size wr x11) := X10.out.trans (bb.mono X10.out.size)

        clear bb)
     | (go_at_call 45; refine (Cw1v.out _).mono ?_; rintro e x12 ⟨rfl, bb⟩
        have X12 : Hid (Below wr.heap.size wr x12) := X11.out.trans (bb.mono X11.out.size)

        clear bb))
    rename_i hHeld
    clear hHeld
    go_upto_region 15 with fail
    go_region_held3 (fun w' => w'.cell? ⟨Bc, 18, none⟩ = some (.int .i64 sm)) (first | exact K15.out _ X12.out.drew | exact K15.out _ X13.out | exact K15.out _ X14.out | exact K15.out _ X15.out | exact K15.out _ X16.out | exact K15.out _ X17.out | exact K15.out _ X18.out) (first
     | (go_at_call_of 46 (Value.int IntKind.i64 v1); refine (Cdv.out _).mono ?_; rintro e x13 ⟨rfl, bb⟩
        have X13 : Hid (Below wr.heap.size wr x13) := (X12.out.drew).trans (bb.mono (X12.out.drew).size)

        clear bb)
     | (go_at_call 39; refine (Cup.out _).mono ?_; rintro e x14 ⟨rfl, bb⟩
        have X14 : Hid (Below wr.heap.size wr x14) := X13.out.trans (bb.mono X13.out.size)

        clear bb)
     | (go_at_call_of 46 (Value.int IntKind.i64 w1v); refine (Cdw.out _).mono ?_; rintro e x15 ⟨rfl, bb⟩
        have X15 : Hid (Below wr.heap.size wr x15) := X14.out.trans (bb.mono X14.out.size)

        clear bb)
     | (go_at_call 47; refine (Csq.out _).mono ?_; rintro e x16 ⟨rfl, bb⟩
        have X16 : Hid (Below wr.heap.size wr x16) := X15.out.trans (bb.mono X15.out.size)

        clear bb)
     | (go_at_call 45; refine (Cdn.out _).mono ?_; rintro e x17 ⟨rfl, bb⟩
        have X17 : Hid (Below wr.heap.size wr x17) := X16.out.trans (bb.mono X16.out.size)

        clear bb)
     | (go_at_call_of 46 (Value.int IntKind.i64 up); refine (Cy1.out _).mono ?_; rintro e x18 ⟨rfl, bb⟩
        have X18 : Hid (Below wr.heap.size wr x18) := X17.out.trans (bb.mono X17.out.size)
        have k5 := (CE.out _ X18.out).2.1.1
        have k6 := (CE.out _ X18.out).2.2.1
        clear bb))
    rename_i hHeld
    clear hHeld
    go_upto_region 17 with (first
     | (go_at_call 43; refine (Cpn.out _).mono ?_; rintro e x19 ⟨rfl, bb⟩
        have X19 : Hid (Below wr.heap.size wr x19) := X18.out.trans (bb.mono X18.out.size)
        have DX : Hid _ := HD.out.below X19.out
        have UX : Hid (But (fun k => k = B) W5 x19) := UW.out.trans (But.below X19.out)
        have BX : Hid (Below w.heap.size w x19) := BW.out.trans (X19.out.mono BW.out.size)
        clear bb))
    obtain ⟨lp, hlp⟩ : ∃ x, x = (List.range i).map FP := ⟨_, rfl⟩
    obtain ⟨lv, hlv⟩ : ∃ x, x = (List.range i).map FV := ⟨_, rfl⟩
    obtain ⟨lm, hlm⟩ : ∃ x, x = (List.range i).map FM := ⟨_, rfl⟩
    have lpl : lp.length = i := by rw [hlp]; simp
    have lvl : lv.length = i := by rw [hlv]; simp
    have lml : lm.length = i := by rw [hlm]; simp
    rw [← hlp, ← hlv, ← hlm] at DX
    rw [← hlp] at SP
    rw [← hlv] at SV
    rw [← hlm] at SM'
    have lp3 : Hid (lp.length + 1 ≤ maxLen) := by show _ ≤ _; unfold maxLen; omega
    have lp4 : Hid ((lp.length + 1) * 8 ≤ 140737488355328) := by show _ ≤ _; omega
    have lv3 : Hid (lv.length + 1 ≤ maxLen) := by show _ ≤ _; unfold maxLen; omega
    have lv4 : Hid ((lv.length + 1) * 8 ≤ 140737488355328) := by show _ ≤ _; omega
    have lm3 : Hid (lm.length + 1 ≤ maxLen) := by show _ ≤ _; unfold maxLen; omega
    have lm4 : Hid ((lm.length + 1) * 8 ≤ 140737488355328) := by show _ ≤ _; omega
    obtain ⟨pa, pc, hvP, -⟩ := row_at DX.out.oP
    obtain ⟨va, vc, hvV, -⟩ := row_at DX.out.oV
    obtain ⟨ma, mc, hvM, -⟩ := row_at DX.out.oM
    subst hvP hvV hvM
    have D2 : Hid _ := DX.out.alloc (.cells #[.int .i64 pn] 3)
    have n2 : x19.cell? ⟨B, 1, none⟩ = some (.slice pa lp.length pc) := cell_of_block DX.out.blk 1
    have B2 : Hid (Below w.heap.size w (x19.alloc (.cells #[.int .i64 pn] 3))) := BX.out.alloc BX.out.size _
    clear hlp hlv hlm lpl lvl lml k5 k6
    go_upto_region 18 with (first
     | (at_builtin; refine wpList_append_lies _ rfl _ _ 47 rfl base 3 j0 _ 1 8 Tryz.underlying47 INF.out.1 INF.out.2.1 INF.out.2.2.1 INF.out.2.2.2 rfl (by decide) _ _ _ rfl D2.out.oP ⟨x19.heap.size, 0, none⟩ 1 1 [.int .i64 pn] rfl rfl (one_cell3 _ _ rfl _) (one_c _ rfl) (by decide) lp3.out lp4.out D2.out.bs _ rfl ?_
        intro g10 cap1 w10 hown hgrow hat hlt2
        have O1 : Hid (OutI w10 base (.slice (some ⟨g10, 0, none⟩) (lp.length + 1) cap1) (lp ++ [pn])) := by
         show World.ownsRow _ _ _ _ _ _ _
         rw [← ints_app, List.length_append]; exact hown
        have kB := blk_grown D2.out.oP D2.out.bB D2.out.bs D2.out.blk hgrow
        have kc : w10.cell? ⟨B, 1, none⟩ = some (.slice pa lp.length pc) := cell_of_block kB 1
        have kz : w10.frozen? ⟨B, 1, none⟩ = false := unfrozen_of_block kB _
        have E1 : Hid _ := D2.out.app1 O1.out hgrow hat
        have BB1 : Hid (Below w.heap.size w (w10.setCell ⟨B, 1, none⟩ (.slice (some ⟨g10, 0, none⟩) (lp.length + 1) cap1))) := below_app B2.out D2.out.oP wB.out.1 D2.out.bB hgrow
        have UU1 : Hid (But (fun k => k = B) W5 (w10.setCell ⟨B, 1, none⟩ (.slice (some ⟨g10, 0, none⟩) (lp.length + 1) cap1))) := app_but UX.out BS.out.1 D2.out.oP hgrow
        clear hown hgrow hat hlt2 kB))
    obtain ⟨U1, hU⟩ : ∃ U, U = w10.setCell ⟨B, 1, none⟩ (.slice (some ⟨g10, 0, none⟩) (lp.length + 1) cap1) := ⟨_, rfl⟩
    rw [← hU] at E1 BB1 UU1 ⊢
    clear hU kc kz
    clear n2 D2 B2
    have D4 : Hid _ := E1.out.alloc (.cells #[.int .i64 v1] 3)
    have n3 : U1.cell? ⟨B, 2, none⟩ = some (.slice va lv.length vc) := cell_of_block E1.out.blk 2
    have B4 : Hid (Below w.heap.size w (U1.alloc (.cells #[.int .i64 v1] 3))) := BB1.out.alloc BB1.out.size _
    go_upto_region 19 with (first
     | (at_builtin; refine wpList_append_lies _ rfl _ _ 47 rfl base 3 j0 _ 1 8 Tryz.underlying47 INF.out.1 INF.out.2.1 INF.out.2.2.1 INF.out.2.2.2 rfl (by decide) _ _ _ rfl D4.out.oV ⟨U1.heap.size, 0, none⟩ 1 1 [.int .i64 v1] rfl rfl (one_cell3 _ _ rfl _) (one_c _ rfl) (by decide) lv3.out lv4.out D4.out.bs _ rfl ?_
        intro g20 cap2 w20 hown hgrow hat hlt2
        have O2 : Hid (OutI w20 base (.slice (some ⟨g20, 0, none⟩) (lv.length + 1) cap2) (lv ++ [v1])) := by
         show World.ownsRow _ _ _ _ _ _ _
         rw [← ints_app, List.length_append]; exact hown
        have kB := blk_grown D4.out.oV D4.out.bB D4.out.bs D4.out.blk hgrow
        have kc : w20.cell? ⟨B, 2, none⟩ = some (.slice va lv.length vc) := cell_of_block kB 2
        have kz : w20.frozen? ⟨B, 2, none⟩ = false := unfrozen_of_block kB _
        have E2 : Hid _ := D4.out.app2 O2.out hgrow hat
        have BB2 : Hid (Below w.heap.size w (w20.setCell ⟨B, 2, none⟩ (.slice (some ⟨g20, 0, none⟩) (lv.length + 1) cap2))) := below_app B4.out D4.out.oV wB.out.1 D4.out.bB hgrow
        have UU2 : Hid (But (fun k => k = B) W5 (w20.setCell ⟨B, 2, none⟩ (.slice (some ⟨g20, 0, none⟩) (lv.length + 1) cap2))) := app_but UU1.out BS.out.1 D4.out.oV hgrow
        clear hown hgrow hat hlt2 kB))
    obtain ⟨U2, hU⟩ : ∃ U, U = w20.setCell ⟨B, 2, none⟩ (.slice (some ⟨g20, 0, none⟩) (lv.length + 1) cap2) := ⟨_, rfl⟩
    rw [← hU] at E2 BB2 UU2 ⊢
    clear hU kc kz
    clear n3 D4 B4
    have D5 : Hid _ := E2.out.alloc (.cells #[.int .i64 w1v] 3)
    have n4 : U2.cell? ⟨B, 3, none⟩ = some (.slice ma lm.length mc) := cell_of_block E2.out.blk 3
    have B5 : Hid (Below w.heap.size w (U2.alloc (.cells #[.int .i64 w1v] 3))) := BB2.out.alloc BB2.out.size _
    go_wp2_with (first
     | (at_builtin; refine wpList_append_lies _ rfl _ _ 47 rfl base 3 j0 _ 1 8 Tryz.underlying47 INF.out.1 INF.out.2.1 INF.out.2.2.1 INF.out.2.2.2 rfl (by decide) _ _ _ rfl D5.out.oM ⟨U2.heap.size, 0, none⟩ 1 1 [.int .i64 w1v] rfl rfl (one_cell3 _ _ rfl _) (one_c _ rfl) (by decide) lm3.out lm4.out D5.out.bs _ rfl ?_
        intro g30 cap3 w30 hown hgrow hat hlt2
        have O3 : Hid (OutI w30 base (.slice (some ⟨g30, 0, none⟩) (lm.length + 1) cap3) (lm ++ [w1v])) := by
         show World.ownsRow _ _ _ _ _ _ _
         rw [← ints_app, List.length_append]; exact hown
        have kB := blk_grown D5.out.oM D5.out.bB D5.out.bs D5.out.blk hgrow
        have kc : w30.cell? ⟨B, 3, none⟩ = some (.slice ma lm.length mc) := cell_of_block kB 3
        have kz : w30.frozen? ⟨B, 3, none⟩ = false := unfrozen_of_block kB _
        have E3 : Hid _ := D5.out.app3 O3.out hgrow hat
        have BB3 : Hid (Below w.heap.size w (w30.setCell ⟨B, 3, none⟩ (.slice (some ⟨g30, 0, none⟩) (lm.length + 1) cap3))) := below_app B5.out D5.out.oM wB.out.1 D5.out.bB hgrow
        have UU3 : Hid (But (fun k => k = B) W5 (w30.setCell ⟨B, 3, none⟩ (.slice (some ⟨g30, 0, none⟩) (lm.length + 1) cap3))) := app_but UU2.out BS.out.1 D5.out.oM hgrow
        clear hown hgrow hat hlt2 kB))
    obtain ⟨U3, hU⟩ : ∃ U, U = w30.setCell ⟨B, 3, none⟩ (.slice (some ⟨g30, 0, none⟩) (lm.length + 1) cap3) := ⟨_, rfl⟩
    rw [← hU] at E3 BB3 UU3 ⊢
    clear hU kc kz
    go_roundw
    case rel => exact ⟨i + 1, _, _, _, by omega, by go_num, by rw [SP.out, SV.out, SM'.out]; exact E3.out, UU3.out, BB3.out⟩
    case measure => simp [intOf]; omega
  · have hie : n = i := by omega
    subst hie
    obtain ⟨Z, hZ⟩ : ∃ Z, Z = D3c (sI + 1) tP tV tM := ⟨_, rfl⟩
    have HZ : Hid _ := hZ
    have K1 : Hid (wr.heap[B]? = some (.cells Z 52 (0, 0))) := by rw [hZ]; exact HD.out.blk
    have K2 : Hid _ := (F5.out wr UW.out).2.2.1
    have IZ : Hid ((Tryz.prog.info? 52).map (·.size) = some Z.size) := by rw [hZ]; exact infoS3 _ _ _ _
    have OZ : Hid (Z.all (·.oneCell') = true) := by
     obtain ⟨pa, pc, e1, -⟩ := row_at HD.out.oP
     obtain ⟨va, vc, e2, -⟩ := row_at HD.out.oV
     obtain ⟨ma, mc, e3, -⟩ := row_at HD.out.oM
     show _ = _; rw [hZ, e1, e2, e3]; simp [D3c, Value.oneCell']
    have RB : Hid (R < base) := by have h1 := lt_of_heap K2.out; have h2 := RW.out; have h3 := HD.out.bB; have h4 := (F5.out W5 (But.refl _ _)).2.2.1; have h5 := lt_of_heap h4; have h6 := BS.out.2; show _ < _; omega
    clear hZ
    go_wp2_with (first
     | (refine wpList_load_row rfl 52 _ rfl B rfl 52 Z (0, 0) _ K1.out Tryz.underlying52 rfl IZ.out ?_)
     | (refine wpList_store_row rfl 52 _ _ rfl R Z rfl rfl 52 _ K2.out IZ.out (by rw [HZ.out]; rfl) OZ.out ?_))
    have OS : Hid (∀ v l, OutI wr base v l → OutI (wr.setRow R Z) w.heap.size v l) := fun v l h => by
     refine Go.Joins.ownsRow_le (base := base) ⟨h.1, ?_⟩ wB.out.2
     rcases h.2 with h' | ⟨k, cap, cur, rfl, h1, h2, h3⟩
     · exact Or.inl h'
     · refine Or.inr ⟨k, cap, cur, rfl, h1, ?_, h3⟩
       rw [setRow_other _ _ _ _ (by have h4 := RB.out; omega)]; exact h2
    refine bodyPost_ret (v := .agg Z) (results_cell_row Tryz.results18 _ _ R 52 Z (0, 0) _ rfl (setRow_heap wr _ _ _ _ _ K2.out) Tryz.underlying52 rfl IZ.out) rfl ⟨tP, tV, tM, by rw [HZ.out], OS.out _ _ HD.out.oP, OS.out _ _ HD.out.oV, OS.out _ _ HD.out.oM, ?_⟩
    exact Below.setRow BW.out RW.out.1 _
end Go.Proofs.YtoihkljlekknkaaGreat
