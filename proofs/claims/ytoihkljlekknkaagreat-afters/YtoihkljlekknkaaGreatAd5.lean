/-
  After, by the document. Conditions: patterns and numbers are such; what the slopes are is handed in.
-/
import Derived.Test.YtoihkljlekknkaaGreatAd4
import Derived.Test.YtoihkljlekknkaaGreatCk5
namespace Go.Proofs.YtoihkljlekknkaaGreat
open Go.RowKit
open Go.Joins (cell_of_block unfrozen_of_block)
set_option linter.unusedVariables false
set_option linter.unusedSimpArgs false
theorem rstep_any (c : Cf) (m : Nat) (s : ByteArray) (ns nb st : Nat) (x : T3) (vP vV vM : Value) (b : Nat) (w : World) (MC : MeanC c m s ns nb) (c2 : c.ok2) (m3 : m < 3) (wb : WB c) (n0 : 0 < sn c (m + 1)) (oP : OutI w b vP x.P) (oV : OutI w b vV x.V) (oM : OutI w b vM x.M) (pP : pats x.P) (pV : pats x.V) (pM : pats x.M) (lP : x.P.length = sn c (m + 1)) (lV : x.V.length = sn c (m + 1)) (lM : x.M.length = sn c (m + 1)) (st4 : st ≤ 1000) :
 Calls Tryz.prog 18 #[.agg (rcs c), .string s, .agg (D3c (st : Int) vP vV vM)] w fun e w' => ∃ uP uV uM, e = .returned (.agg (D3c ((st : Int) + 1) uP uV uM)) ∧ OutI w' w.heap.size uP (STEP c m s ns nb st x).P ∧ OutI w' w.heap.size uV (STEP c m s ns nb st x).V ∧ OutI w' w.heap.size uM (STEP c m s ns nb st x).M ∧ Below w.heap.size w w' := by
 by_cases h : c.rule = 1
 · exact rstep_adam c m s ns nb st x vP vV vM b w MC c2 m3 wb n0 h oP oV oM pP pV pM lP lV lM st4
 · exact rstep_mom c m s ns nb st x vP vV vM b w MC c2 m3 wb n0 h oP oV oM pP pV pM lP lV lM st4
theorem RUN_len (c : Cf) (m : Nat) (s : ByteArray) (ns nb i : Nat) : (RUN c m s ns nb i).P.length = sn c (m + 1) ∧ (RUN c m s ns nb i).V.length = sn c (m + 1) ∧ (RUN c m s ns nb i).M.length = sn c (m + 1) := by
 induction i with
 | zero => exact ⟨PARS_len _ _, List.length_replicate, List.length_replicate⟩
 | succ i ih =>
   have g := GRD_len c m s (RUN c m s ns nb i).P (PKN c ns i nb) nb
   refine ⟨?_, ?_, ?_⟩
   · show (NP _ _ _ _ _ _).length = _; rw [NP_len]; exact g
   · show (NV _ _ _).length = _; rw [NV_len]; exact g
   · show (NM _ _ _).length = _; rw [NM_len _ _ _ (by rw [ih.2.2, g])]; exact g
theorem out_row {w : World} {b Bs : Nat} {v : Value} {l : List Int} {C Z : Array Value} (h : OutI w b v l) (hB : w.heap[Bs]? = some (.cells C 52 (0, 0))) : OutI (w.setRow Bs Z) b v l := by
 have h0 := h
 refine ⟨h.1, ?_⟩
 rcases h.2 with h' | ⟨k, cap, cur, rfl, h1, h2, h3⟩
 · exact Or.inl h'
 · refine Or.inr ⟨k, cap, cur, rfl, h1, ?_, h3⟩
   rw [setRow_other _ _ _ _ (fun e => by subst e; exact owns_kind h0 rfl hB (by decide))]; exact h2
theorem out_zero {w : World} {b : Nat} {v : Value} {l : List Int} (h : OutI w b v l) : OutI w 0 v l := Go.Joins.ownsRow_le h (Nat.zero_le _)
/-- the document's state in memory, behind so many steps -/
structure SD (c : Cf) (m : Nat) (s : ByteArray) (ns nb Bs i : Nat) (vP vV vM : Value) (w : World) : Prop where
 blk : w.heap[Bs]? = some (.cells (D3c (i : Int) vP vV vM) 52 (0, 0))
 oP : OutI w 0 vP (RUN c m s ns nb i).P
 oV : OutI w 0 vV (RUN c m s ns nb i).V
 oM : OutI w 0 vM (RUN c m s ns nb i).M
theorem SD.below {c : Cf} {m : Nat} {s : ByteArray} {ns nb Bs i : Nat} {vP vV vM : Value} {w w' : World} (h : SD c m s ns nb Bs i vP vV vM w) (b : Below w.heap.size w w') : SD c m s ns nb Bs i vP vV vM w' :=
 ⟨(b.block _ (lt_of_heap h.blk)).trans h.blk, owns_below h.oP b, owns_below h.oV b, owns_below h.oM b⟩
theorem D3c_one {w : World} {a b d : Nat} {vP vV vM : Value} {lp lv lm : List Int} (i : Int) (oP : OutI w a vP lp) (oV : OutI w b vV lv) (oM : OutI w d vM lm) : (D3c i vP vV vM).all (·.oneCell') = true := by
 obtain ⟨pa, pc, e1, -⟩ := row_at oP
 obtain ⟨va, vc, e2, -⟩ := row_at oV
 obtain ⟨ma, mc, e3, -⟩ := row_at oM
 rw [e1, e2, e3]; simp [D3c, Value.oneCell']
set_option maxHeartbeats 8000000 in
set_option maxRecDepth 100000 in
theorem rafter_any (c : Cf) (s : ByteArray) (steps : Int) (w : World) (MC : CHK c (s.size : Int) = 0 → MeanC c (mOf c) s (nsOf c s) (nbOf c)) (c2 : c.ok2) (hs : s.size ≤ maxLen) :
 Calls Tryz.prog 7 #[.agg (rcs c), .string s, .int .i64 steps] w fun e w' => e = .returned (.tuple #[.string (AFT c s steps), .int .i64 (CHK c (s.size : Int))]) ∧ Below w.heap.size w w' := by
 obtain ⟨X, hX⟩ : ∃ X, X = rcs c := ⟨_, rfl⟩
 have CK : Hid (∀ V, Calls Tryz.prog 16 #[.agg X, .string s] V fun e w' => e = .returned (.int .i64 (CHK c (s.size : Int))) ∧ Below V.heap.size V w') := fun V => by rw [hX]; exact rcheck_any c s V hs
 obtain ⟨W, hW, b0, bel, hws⟩ := one_block w X 24
 obtain ⟨Bc, hBc⟩ : ∃ B, B = w.heap.size := ⟨_, rfl⟩
 have CW : Hid (W.heap[Bc]? = some (.cells X 24 (0, 0))) := by rw [hBc]; exact b0
 have BE : Hid (Below w.heap.size w W) := bel
 have HW : Hid _ := hW
 have HB : Hid _ := hBc
 have IX : Hid ((Tryz.prog.info? 24).map (·.size) = some X.size) := by rw [hX]; exact infoC c
 have X10 : Hid (X[10]? = some (.int .i64 c.steps)) := by rw [hX]; rfl
 have HX : Hid _ := hX
 rw [← hX]
 clear hX hW b0 bel hws hBc hs
 cases hc : (CHK c (s.size : Int) == 0)
 · have ne : ¬ CHK c (s.size : Int) = 0 := by simpa using hc
   have AE : Hid (AFT c s steps = ByteArray.empty) := by show _ = _; unfold AFT; rw [if_neg ne]
   rw [AE.out]
   obtain ⟨ev, hev⟩ : ∃ x, x = CHK c (s.size : Int) := ⟨_, rfl⟩
   rw [← hev] at CK hc ne ⊢
   clear hev AE MC
   go_enter Tryz.func7, Tryz.ntmps7
   go_upto_region 1 with fail
   rw [HW.out]
   rw [← HB.out]
   go_wp2_with (first
    | (refine wpList_load_row rfl 24 _ rfl Bc rfl 24 X (0, 0) _ CW.out Tryz.underlying24 rfl IX.out ?_)
    | (go_at_call 16; refine (CK.out _).mono ?_; rintro e w1 ⟨rfl, b1⟩
       have B1 : Hid (Below w.heap.size w w1) := BE.out.trans (b1.mono BE.out.size)
       clear b1))
   go_ret2
   exact ⟨rfl, B1.out⟩
 · have eq : CHK c (s.size : Int) = 0 := by simpa using hc
   obtain ⟨eL, em, wb, one, hsz, n1, n16, hb, nb4, nb1⟩ := sizes_of eq
   have mc := MC eq
   have stb := (ALW_bs (CHK_ok eq).1).2
   have AE : Hid (AFT c s steps = TEXT (kOf c steps : Int) (RUN c (mOf c) s (nsOf c s) (nbOf c) (kOf c steps)).P (RUN c (mOf c) s (nsOf c s) (nbOf c) (kOf c steps)).V (RUN c (mOf c) s (nsOf c s) (nbOf c) (kOf c steps)).M) := by show _ = _; unfold AFT; rw [if_pos eq]
   rw [AE.out, eq]
   simp only [eq] at CK
   obtain ⟨m, hm⟩ : ∃ x, x = mOf c := ⟨_, rfl⟩
   obtain ⟨ns, hns⟩ : ∃ x, x = nsOf c s := ⟨_, rfl⟩
   obtain ⟨nb, hnb⟩ : ∃ x, x = nbOf c := ⟨_, rfl⟩
   rw [← hm] at eL em one mc ⊢
   rw [← hns] at mc ⊢
   rw [← hnb] at mc ⊢
   have npos : 0 < sn c (m + 1) := by
    have h1 := sn_succ wb m em
    have h2 := one (m + 1) (by omega)
    have h3 : 1 * 1 ≤ wn c (m + 1) * (wn c m + 1) := Nat.mul_le_mul h2 (by omega)
    omega
   have n60 : sn c (m + 1) ≤ 60 := sn_le wb (m + 1) (by omega)
   have kk1 : ∀ i : Nat, i < kOf c steps → (i : Int) < steps ∧ (i : Int) < c.steps := fun i hi => by unfold kOf at hi; omega
   have kk2 : ∀ i : Nat, ¬ i < kOf c steps → i ≤ kOf c steps → ¬ (i : Int) < steps ∨ ((i : Int) < steps ∧ ¬ (i : Int) < c.steps) := fun i hi _ => by unfold kOf at hi; omega
   have kk3 : kOf c steps ≤ 200 := by unfold kOf; omega
   obtain ⟨kk, hkk⟩ : ∃ x, x = kOf c steps := ⟨_, rfl⟩
   rw [← hkk] at kk1 kk2 kk3 ⊢
   have KK1 : Hid _ := kk1
   have KK2 : Hid _ := kk2
   have FIc : Hid (∀ V, Calls Tryz.prog 17 #[.agg X] V fun e w' => ∃ vP vV vM, e = .returned (.agg (D3c 0 vP vV vM)) ∧ OutI w' V.heap.size vP (RUN c m s ns nb 0).P ∧ OutI w' V.heap.size vV (RUN c m s ns nb 0).V ∧ OutI w' V.heap.size vM (RUN c m s ns nb 0).M ∧ Below V.heap.size V w') := fun V => by rw [HX.out]; exact first_any c m V c2 eL em wb
   have STc : Hid (∀ Bs i vP vV vM V, SD c m s ns nb Bs i vP vV vM V → i ≤ 1000 → Calls Tryz.prog 18 #[.agg X, .string s, .agg (D3c (i : Int) vP vV vM)] V fun e w' => ∃ uP uV uM, e = .returned (.agg (D3c ((i + 1 : Nat) : Int) uP uV uM)) ∧ OutI w' V.heap.size uP (RUN c m s ns nb (i + 1)).P ∧ OutI w' V.heap.size uV (RUN c m s ns nb (i + 1)).V ∧ OutI w' V.heap.size uM (RUN c m s ns nb (i + 1)).M ∧ Below V.heap.size V w') := fun Bs i vP vV vM V h hi => by
    have p := RUN_pats c m s ns nb i
    have l := RUN_len c m s ns nb i
    rw [HX.out]
    exact rstep_any c m s ns nb i (RUN c m s ns nb i) vP vV vM 0 V mc c2 em wb npos h.oP h.oV h.oM p.1 p.2.1 p.2.2 l.1 l.2.1 l.2.2 hi
   have TXc : Hid (∀ Bs i vP vV vM V, SD c m s ns nb Bs i vP vV vM V → i ≤ 1000 → Calls Tryz.prog 19 #[.agg (D3c (i : Int) vP vV vM)] V fun e w' => e = .returned (.string (TEXT (i : Int) (RUN c m s ns nb i).P (RUN c m s ns nb i).V (RUN c m s ns nb i).M)) ∧ Below V.heap.size V w') := fun Bs i vP vV vM V h hi => by
    have p := RUN_pats c m s ns nb i
    have l := RUN_len c m s ns nb i
    exact rtext_any (i : Int) _ _ _ vP vV vM 0 0 0 V (by omega) h.oP h.oV h.oM p.1 p.2.1 p.2.2 (by rw [l.2.1, l.1]) (by rw [l.2.2, l.1]) (by rw [l.1]; omega)
   clear AE hm hns hnb hkk eL em wb one hsz kk1 kk2 eq hc c2 hb mc MC npos n1 n16 nb4 nb1
   go_enter Tryz.func7, Tryz.ntmps7
   go_upto_region 1 with fail
   rw [HW.out]
   rw [← HB.out]
   go_upto_region 4 with (first
    | (refine wpList_load_row rfl 24 _ rfl Bc rfl 24 X (0, 0) _ CW.out Tryz.underlying24 rfl IX.out ?_)
    | (go_at_call 16; refine (CK.out _).mono ?_; rintro e w1 ⟨rfl, b1⟩
       have B1 : Hid (Below w.heap.size w w1) := BE.out.trans (b1.mono BE.out.size)
       have C1 : Hid (w1.heap[Bc]? = some (.cells X 24 (0, 0))) := (b1.block _ (lt_of_heap CW.out)).trans CW.out
       clear b1))
   go_upto_region 5 with (first
    | (refine wpList_load_row rfl 24 _ rfl Bc rfl 24 X (0, 0) _ C1.out Tryz.underlying24 rfl IX.out ?_)
    | (go_at_call 17; refine (FIc.out _).mono ?_; rintro e w2 ⟨vP, vV, vM, rfl, oP, oV, oM, b2⟩
       have B2 : Hid (Below w.heap.size w w2) := B1.out.trans (b2.mono B1.out.size)
       have C2 : Hid (w2.heap[Bc]? = some (.cells X 24 (0, 0))) := (b2.block _ (lt_of_heap C1.out)).trans C1.out
       have OP : Hid _ := oP
       have OV : Hid _ := oV
       have OM : Hid _ := oM
       have NA : Hid ((w2.alloc (.cells (D3c 0 (.slice none 0 0) (.slice none 0 0) (.slice none 0 0)) 52)).heap[w2.heap.size]? = some (.cells (D3c 0 (.slice none 0 0) (.slice none 0 0) (.slice none 0 0)) 52 (0, 0))) := heap_alloc_new w2 _
       clear oP oV oM b2)
    | (refine wpList_store_row rfl 52 _ _ rfl w2.heap.size (D3c 0 vP vV vM) rfl rfl 52 (D3c 0 (.slice none 0 0) (.slice none 0 0) (.slice none 0 0)) NA.out (infoS3 _ _ _ _) rfl (D3c_one 0 OP.out OV.out OM.out) ?_))
   obtain ⟨Bs, hBs⟩ : ∃ x, x = w2.heap.size := ⟨_, rfl⟩
   obtain ⟨W3, hW3⟩ : ∃ x, x = (w2.alloc (.cells (D3c 0 (.slice none 0 0) (.slice none 0 0) (.slice none 0 0)) 52)).setRow w2.heap.size (D3c 0 vP vV vM) := ⟨_, rfl⟩
   have a3 : Below w2.heap.size w2 W3 := by rw [hW3]; exact Below.setRow ((Below.refl _ _).alloc (Nat.le_refl _) _) (Nat.le_refl _) _
   have S3 : Hid (SD c m s ns nb Bs 0 vP vV vM W3) := ⟨by rw [hW3, hBs]; exact setRow_heap _ _ _ _ _ _ NA.out, out_zero (owns_below OP.out a3), out_zero (owns_below OV.out a3), out_zero (owns_below OM.out a3)⟩
   have C3 : Hid (W3.heap[Bc]? = some (.cells X 24 (0, 0))) := (a3.block _ (lt_of_heap C2.out)).trans C2.out
   have B3 : Hid (Below w.heap.size w W3) := B2.out.trans (a3.mono B2.out.size)
   have BL : Hid (w.heap.size ≤ Bs ∧ Bc < Bs) := ⟨by rw [hBs]; exact B2.out.size, by rw [hBs]; exact lt_of_heap C2.out⟩
   rw [show (w2.alloc (.cells #[.int .i64 0, .slice none 0 0, .slice none 0 0, .slice none 0 0] 52)).setRow w2.heap.size (D3c 0 vP vV vM) = W3 from hW3.symm]
   rw [← hBs]
   clear hBs hW3 a3 OP OV OM NA C1 C2 B1 B2 CW BE FIc CK
   simp only [Act.put]
   go_loopw [28] (fun _ wr => ∃ (i : Nat) (tP tV tM : Value), i ≤ kk ∧ Hid (SD c m s ns nb Bs i tP tV tM wr) ∧ Hid (wr.heap[Bc]? = some (.cells X 24 (0, 0))) ∧ Hid (Below w.heap.size w wr)) (fun _ wr => kk - (intOf ((wr.cell? ⟨Bs, 0, none⟩).getD undef)).toNat)
   case atStart => exact ⟨0, _, _, _, by omega, S3.out, C3.out, B3.out⟩
   case round =>
    clear S3 C3 B3
    obtain ⟨i, tP, tV, tM, hi, HS, HC, BW⟩ := hrel
    have s0 : wr.cell? ⟨Bs, 0, none⟩ = some (.int .i64 (i : Int)) := cell_of_block HS.out.blk 0
    have s10 : wr.cell? ⟨Bc, 10, none⟩ = some (.int .i64 c.steps) := (cell_of_block HC.out 10).trans X10.out
    by_cases hlt : i < kk
    · have h1 := (KK1.out i hlt).1
      have h2 := (KK1.out i hlt).2
      have ST1 : Hid (Calls Tryz.prog 18 #[.agg X, .string s, .agg (D3c (i : Int) tP tV tM)] wr fun e w' => ∃ uP uV uM, e = .returned (.agg (D3c ((i + 1 : Nat) : Int) uP uV uM)) ∧ OutI w' wr.heap.size uP (RUN c m s ns nb (i + 1)).P ∧ OutI w' wr.heap.size uV (RUN c m s ns nb (i + 1)).V ∧ OutI w' wr.heap.size uM (RUN c m s ns nb (i + 1)).M ∧ Below wr.heap.size wr w') := STc.out Bs i tP tV tM wr HS.out (by omega)
      obtain ⟨Y, hY⟩ : ∃ Y, Y = D3c (i : Int) tP tV tM := ⟨_, rfl⟩
      have K0 : Hid (wr.heap[Bs]? = some (.cells Y 52 (0, 0))) := by rw [hY]; exact HS.out.blk
      have IY : Hid ((Tryz.prog.info? 52).map (·.size) = some Y.size) := by rw [hY]; exact infoS3 _ _ _ _
      have SY : Hid (Y.size = 4) := by show _ = _; rw [hY]; rfl
      rw [← hY] at ST1
      have HS0 : Hid _ := s0
      clear hY
      go_wp2_with (first
       | (refine wpList_load_row rfl 24 _ rfl Bc rfl 24 X (0, 0) _ HC.out Tryz.underlying24 rfl IX.out ?_)
       | (refine wpList_load_row rfl 52 _ rfl Bs rfl 52 Y (0, 0) _ K0.out Tryz.underlying52 rfl IY.out ?_)
       | (go_at_call 18; refine ST1.out.mono ?_; rintro e w6 ⟨uP, uV, uM, rfl, oP, oV, oM, b6⟩
          have B6 : Hid _ := b6
          have OP : Hid _ := oP
          have OV : Hid _ := oV
          have OM : Hid _ := oM
          have K6 : Hid (w6.heap[Bs]? = some (.cells Y 52 (0, 0))) := (b6.block _ (lt_of_heap K0.out)).trans K0.out
          clear b6 oP oV oM)
       | (refine wpList_store_row rfl 52 _ _ rfl Bs (D3c ((i + 1 : Nat) : Int) uP uV uM) rfl rfl 52 Y K6.out (infoS3 _ _ _ _) (by rw [SY.out]; rfl) (D3c_one _ OP.out OV.out OM.out) ?_))
      have S7 : Hid (SD c m s ns nb Bs (i + 1) uP uV uM (w6.setRow Bs (D3c ((i + 1 : Nat) : Int) uP uV uM))) := ⟨setRow_heap _ _ _ _ _ _ K6.out, out_row (out_zero OP.out) K6.out, out_row (out_zero OV.out) K6.out, out_row (out_zero OM.out) K6.out⟩
      have C7 : Hid ((w6.setRow Bs (D3c ((i + 1 : Nat) : Int) uP uV uM)).heap[Bc]? = some (.cells X 24 (0, 0))) := by show _ = _; rw [setRow_other _ _ _ _ (by have h3 := BL.out.2; omega)]; exact (B6.out.block _ (lt_of_heap HC.out)).trans HC.out
      have B7 : Hid (Below w.heap.size w (w6.setRow Bs (D3c ((i + 1 : Nat) : Int) uP uV uM))) := Below.setRow (BW.out.trans (B6.out.mono BW.out.size)) BL.out.1 _
      have HC7 : Hid ((w6.setRow Bs (D3c ((i + 1 : Nat) : Int) uP uV uM)).cell? ⟨Bs, 0, none⟩ = some (.int .i64 ((i + 1 : Nat) : Int))) := cell_of_block S7.out.blk 0
      simp only [Act.put]
      go_roundw
      case rel => exact ⟨i + 1, _, _, _, by omega, S7.out, C7.out, B7.out⟩
      case measure => rw [HC7.out, HS0.out]; simp [intOf]; omega
    · have hie : kk = i := by omega
      subst hie
      have TX1 : Hid (Calls Tryz.prog 19 #[.agg (D3c (kk : Int) tP tV tM)] wr fun e w' => e = .returned (.string (TEXT (kk : Int) (RUN c m s ns nb kk).P (RUN c m s ns nb kk).V (RUN c m s ns nb kk).M)) ∧ Below wr.heap.size wr w') := TXc.out Bs kk tP tV tM wr HS.out (by omega)
      obtain ⟨Y, hY⟩ : ∃ Y, Y = D3c (kk : Int) tP tV tM := ⟨_, rfl⟩
      have K0 : Hid (wr.heap[Bs]? = some (.cells Y 52 (0, 0))) := by rw [hY]; exact HS.out.blk
      have IY : Hid ((Tryz.prog.info? 52).map (·.size) = some Y.size) := by rw [hY]; exact infoS3 _ _ _ _
      rw [← hY] at TX1
      clear hY
      obtain ⟨tt, htt⟩ : ∃ x, x = TEXT (kk : Int) (RUN c m s ns nb kk).P (RUN c m s ns nb kk).V (RUN c m s ns nb kk).M := ⟨_, rfl⟩
      have HTT : Hid _ := htt
      simp only [← htt] at TX1
      clear htt
      rcases KK2.out kk hlt (Nat.le_refl _) with h1 | ⟨h1, h2⟩
      all_goals
       go_wp2_with (first
        | (refine wpList_load_row rfl 52 _ rfl Bs rfl 52 Y (0, 0) _ K0.out Tryz.underlying52 rfl IY.out ?_)
        | (go_at_call 19; refine TX1.out.mono ?_; rintro e w6 ⟨rfl, b6⟩
           have B6 : Hid (Below wr.heap.size wr w6) := b6
           clear b6))
       go_ret2
       exact ⟨by rw [HTT.out]; rfl, BW.out.trans (B6.out.mono BW.out.size)⟩
end Go.Proofs.YtoihkljlekknkaaGreat
