/-
  RateAt by the document: the number that the program answers. Conditions: the configuration's patterns are some (0 to 2^32 - 1), the step is an int.
-/
import Derived.Test.YtoihkljlekknkaaGreatRt1
namespace Go.Proofs.YtoihkljlekknkaaGreat
open Go.RowKit
open Go.Joins (block_setCell cell_of_block unfrozen_of_block)
set_option linter.unusedVariables false
set_option linter.unusedSimpArgs false
/-- the cells that are read, in whatever world behind the call's beginning -/
def K5 (w : World) (pl st sp wm rt : Int) (a : World) : Prop :=
 a.cell? ⟨w.heap.size, 8, none⟩ = some (.int .i64 pl) ∧ a.cell? ⟨w.heap.size, 10, none⟩ = some (.int .i64 st) ∧ a.cell? ⟨w.heap.size, 12, none⟩ = some (.int .i64 sp) ∧ a.cell? ⟨w.heap.size, 13, none⟩ = some (.int .i64 wm) ∧ a.cell? ⟨w.heap.size, 15, none⟩ = some (.int .i64 rt) ∧ w.heap.size < a.heap.size ∧ Below w.heap.size w a
theorem K5.keep {w a b : World} {pl st sp wm rt : Int} (h : K5 w pl st sp wm rt a) (hb : Below a.heap.size a b) : K5 w pl st sp wm rt b := by
 obtain ⟨h1, h2, h3, h4, h5, hl, hw⟩ := h
 exact ⟨(hb.cell (p := ⟨w.heap.size, 8, none⟩) hl).trans h1, (hb.cell (p := ⟨w.heap.size, 10, none⟩) hl).trans h2, (hb.cell (p := ⟨w.heap.size, 12, none⟩) hl).trans h3, (hb.cell (p := ⟨w.heap.size, 13, none⟩) hl).trans h4, (hb.cell (p := ⟨w.heap.size, 15, none⟩) hl).trans h5, Nat.lt_of_lt_of_le hl hb.size, hw.trans (hb.mono hw.size)⟩
theorem K5.draw {w a : World} {pl st sp wm rt : Int} (h : K5 w pl st sp wm rt a) : K5 w pl st sp wm rt a.drew := ⟨h.1, h.2.1, h.2.2.1, h.2.2.2.1, h.2.2.2.2.1, h.2.2.2.2.2.1, h.2.2.2.2.2.2.drew⟩
theorem rounds_of (step k sp p : Int) (i : Nat) (hp : p = (i : Int) * sp) (hs : step = k + p) (h0 : 0 ≤ k) (h1 : k < sp) : (step / sp).toNat = i := by
 rw [hs, hp, Int.add_mul_ediv_right _ _ (by omega), Int.ediv_eq_zero_of_lt h0 h1]; omega
theorem next_p (p sp : Int) (i : Nat) (hp : p = (i : Int) * sp) : p + sp = ((i + 1 : Nat) : Int) * sp := by
 rw [hp]; push_cast; rw [Int.add_mul]; omega
theorem keepS13 {w a b : World} {pl st sp wm rt : Int} (hb : Below a.heap.size a b) (h : a.cell? ⟨w.heap.size, 13, none⟩ = some (.int .i64 wm) ∧ K5 w pl st sp wm rt a) : b.cell? ⟨w.heap.size, 13, none⟩ = some (.int .i64 wm) ∧ K5 w pl st sp wm rt b :=
 ⟨(h.2.keep hb).2.2.2.1, h.2.keep hb⟩
set_option maxHeartbeats 4000000 in
set_option maxRecDepth 100000 in
theorem rrateAt_any (c : Cf) (step : Int) (w : World) (h2 : c.ok2) :
 Calls Tryz.prog 42 #[.agg (rcs c), .int .i64 step] w fun e w' => e = .returned (.int .i64 (RATE c step)) ∧ Below w.heap.size w w' := by
 obtain ⟨X, hX⟩ : ∃ X, X = rcs c := ⟨_, rfl⟩
 have IC : Hid (∀ w, Calls Tryz.prog 34 #[.agg X] w fun e w' => e = .returned (.bool (ALW c)) ∧ Below w.heap.size w w') := fun w => by rw [hX]; exact allowed_any c w
 rw [← hX]
 obtain ⟨r0, r1⟩ := h2.rate
 obtain ⟨W, hW, b0, bel, hws⟩ := one_block w X 24
 have K0 : Hid (K5 w c.plan c.steps c.span c.warm c.rate W) := ⟨(cell_of_block b0 8).trans (by rw [hX]; rfl), (cell_of_block b0 10).trans (by rw [hX]; rfl), (cell_of_block b0 12).trans (by rw [hX]; rfl), (cell_of_block b0 13).trans (by rw [hX]; rfl), (cell_of_block b0 15).trans (by rw [hX]; rfl), by omega, bel⟩
 have B0 : Hid _ := b0
 have X1 : Hid ((Tryz.prog.info? 24).map (·.size) = some X.size) := by show _ = _; rw [hX]; kernel_rfl
 have HW : Hid _ := hW
 clear b0 bel hW hX hws
 cases h1 : ALW c
 · have R : Hid (RATE c step = 0) := by show _ = _; unfold RATE; rw [if_neg (by rw [h1]; simp)]
   rw [h1] at IC
   go_enter Tryz.func42, Tryz.ntmps42
   go_upto_region 1 with fail
   rw [HW.out]
   go_wp2_with (first
    | (go_at_call 34; refine (IC.out _).mono ?_; rintro e w1 ⟨rfl, hb⟩; have K1 := K0.out.keep hb; have HK1 : Hid _ := K1; clear hb K1)
    | (refine wpList_load_row rfl 24 _ rfl w.heap.size rfl 24 X (0, 0) _ B0.out Tryz.underlying24 rfl X1.out ?_))
   go_ret
   exact ⟨ret_int R.out.symm, HK1.out.2.2.2.2.2.2⟩
 · rw [h1] at IC
   cases h3 : inB step 0 400
   · have R : Hid (RATE c step = 0) := by show _ = _; unfold RATE; rw [if_neg (by rw [h3]; simp)]
     go_enter Tryz.func42, Tryz.ntmps42
     go_upto_region 1 with fail
     rw [HW.out]
     go_wp2_with (first
      | (go_at_call 34; refine (IC.out _).mono ?_; rintro e w1 ⟨rfl, hb⟩; have K1 := K0.out.keep hb; have HK1 : Hid _ := K1; clear hb K1)
      | (go_at_call 68; refine (rin_any _ _ _ _).mono ?_; rintro e w' ⟨rfl, hw'⟩; subst w'; rw [h3])
      | (refine wpList_load_row rfl 24 _ rfl w.heap.size rfl 24 X (0, 0) _ B0.out Tryz.underlying24 rfl X1.out ?_))
     go_ret
     exact ⟨ret_int R.out.symm, HK1.out.2.2.2.2.2.2⟩
   · have hs := inB_iff.1 h3
     obtain ⟨hp, hst, hsp, hwm⟩ := ALW_more h1
     have E : Hid (RATE c step = PLN c step) := by show _ = _; unfold RATE; rw [if_pos ⟨h1, h3⟩]
     have E2 : Hid (PLN c step = if c.plan = 1 then HLV c.rate (step / c.span).toNat else if c.plan = 2 then WAV c step else c.rate) := rfl
     have E3 : Hid (WAV c step = if step < c.warm then MUL c.rate (DIV (FROMI (step + 1)) (FROMI c.warm)) else MUL (MUL c.rate 1056964608) (ADD 1065353216 (COS (capOne (DIV (FROMI (step - c.warm)) (FROMI (max (c.steps - c.warm) 1))))))) := rfl
     obtain ⟨pl, hpl⟩ : ∃ x, x = c.plan := ⟨_, rfl⟩
     obtain ⟨st, hstt⟩ : ∃ x, x = c.steps := ⟨_, rfl⟩
     obtain ⟨sp, hspp⟩ : ∃ x, x = c.span := ⟨_, rfl⟩
     obtain ⟨wm, hwmm⟩ : ∃ x, x = c.warm := ⟨_, rfl⟩
     obtain ⟨rt, hrt⟩ : ∃ x, x = c.rate := ⟨_, rfl⟩
     rw [← hpl] at hp K0 E2
     rw [← hstt] at hst hwm K0 E3
     rw [← hspp] at hsp K0 E2
     rw [← hwmm] at hwm K0 E3
     rw [← hrt] at r0 r1 K0 E2 E3
     clear hpl hstt hspp hwmm hrt
     rcases (show pl = 0 ∨ pl = 1 ∨ pl = 2 by omega) with rfl | rfl | rfl
     · have R : Hid (RATE c step = rt) := by show _ = _; rw [E.out, E2.out]; rfl
       clear E E2 E3
       go_enter Tryz.func42, Tryz.ntmps42
       go_upto_region 1 with fail
       rw [HW.out]
       go_wp2_with (first
        | (go_at_call 34; refine (IC.out _).mono ?_; rintro e w1 ⟨rfl, hb⟩; have K1 := K0.out.keep hb; have HK1 : Hid _ := K1; obtain ⟨k1, k2, k3, k4, k5, k6, k7⟩ := K1; clear hb k6 k7)
        | (go_at_call 68; refine (rin_any _ _ _ _).mono ?_; rintro e w' ⟨rfl, hw'⟩; subst w'; rw [h3])
        | (refine wpList_load_row rfl 24 _ rfl w.heap.size rfl 24 X (0, 0) _ B0.out Tryz.underlying24 rfl X1.out ?_))
       go_ret
       exact ⟨ret_int R.out.symm, HK1.out.2.2.2.2.2.2⟩
     · have R : Hid (RATE c step = HLV rt (step / sp).toNat) := by show _ = _; rw [E.out, E2.out]; rfl
       clear E E2 E3
       go_enter Tryz.func42, Tryz.ntmps42
       go_upto_region 1 with fail
       rw [HW.out]
       go_wp2_with (first
        | (go_at_call 34; refine (IC.out _).mono ?_; rintro e w1 ⟨rfl, hb⟩; have K1 := K0.out.keep hb; have HK1 : Hid _ := K1; obtain ⟨k1, k2, k3, k4, k5, k6, k7⟩ := K1; clear hb k6 k7)
        | (go_at_call 68; refine (rin_any _ _ _ _).mono ?_; rintro e w' ⟨rfl, hw'⟩; subst w'; rw [h3])
        | (refine wpList_load_row rfl 24 _ rfl w.heap.size rfl 24 X (0, 0) _ B0.out Tryz.underlying24 rfl X1.out ?_))
       go_loopw [6, 7] (fun rv kv wr => ∃ (i : Nat) (k p : Int), kv = .int .i64 k ∧ rv = .int .i64 (HLV rt i) ∧ 0 ≤ k ∧ k ≤ step ∧ Hid (p = (i : Int) * sp) ∧ Hid (step = k + p) ∧ Hid (K5 w 1 st sp wm rt wr)) (fun _ kv _ => (intOf kv).toNat)
       case atStart => exact ⟨0, step, 0, rfl, rfl, by omega, by omega, by show _ = _; simp, by show _ = _; omega, HK1.out⟩
       case round =>
        clear k1 k2 k3 k4 k5 HK1
        obtain ⟨i, k, p, rfl, rfl, g0, g1, HP, HST, HK⟩ := hrel
        obtain ⟨k1, k2, k3, k4, k5, k6, k7⟩ := HK.out
        clear k1 k2 k4 k5 k6 k7
        have hb := HLV_bd rt i r0 r1
        have HS : Hid _ := HLV_succ rt i
        obtain ⟨x, hx⟩ : ∃ x, x = HLV rt i := ⟨_, rfl⟩
        have HX : Hid _ := hx
        rw [← hx] at hb HS ⊢
        obtain ⟨x', hx'⟩ : ∃ y, MUL x 1056964608 = y := ⟨_, rfl⟩
        have M1 : Hid (∀ w, Calls Tryz.prog 39 #[.int .i64 x, .int .i64 1056964608] w fun e w' => e = .returned (.int .i64 x') ∧ Below w.heap.size w w') := fun w => by rw [← hx']; exact rmul_any x 1056964608 w hb.1 hb.2 (by omega) (by omega)
        rw [hx'] at HS
        clear hx hx' hb
        by_cases hlt : sp ≤ k
        · go_wp2_with (first | (go_at_call 39; refine (M1.out _).mono ?_; rintro e w2 ⟨rfl, hbb⟩; have K2 := HK.out.keep hbb; have HK2 : Hid _ := K2; obtain ⟨k1, k2, j3, k4, k5, k6, k7⟩ := K2; clear hbb k1 k2 k4 k5 k6 k7))
          go_roundw
          case rel => exact ⟨i + 1, k - sp, p + sp, by go_num, by rw [HS.out], by omega, by omega, next_p p sp i HP.out, by have := HST.out; show _ = _; omega, HK2.out⟩
          case measure => simp [intOf]; omega
        · have RR : Hid (RATE c step = x) := by show _ = _; rw [R.out, rounds_of step k sp p i HP.out HST.out g0 (by omega), ← HX.out]
          clear HX HS M1
          go_wp2
          go_ret
          exact ⟨ret_int RR.out.symm, HK.out.2.2.2.2.2.2⟩
     · have E4 : Hid (RATE c step = WAV c step) := by show _ = _; rw [E.out, E2.out]; rfl
       clear E E2
       by_cases hlt : step < wm
       · obtain ⟨fq, hfq⟩ : ∃ f, DIV (FROMI (step + 1)) (FROMI wm) = f := ⟨_, rfl⟩
         have f1 := FROMI_bd (step + 1)
         have f2 := FROMI_bd wm
         have d1 := DIV_bd (FROMI (step + 1)) (FROMI wm)
         have D1 : Hid (∀ w, Calls Tryz.prog 46 #[.int .i64 (FROMI (step + 1)), .int .i64 (FROMI wm)] w fun e w' => e = .returned (.int .i64 fq) ∧ Below w.heap.size w w') := fun w => by rw [← hfq]; exact rdiv_any _ _ w f1.1 f1.2 f2.1 f2.2
         rw [hfq] at d1
         obtain ⟨m, hm⟩ : ∃ f, MUL rt fq = f := ⟨_, rfl⟩
         have M1 : Hid (∀ w, Calls Tryz.prog 39 #[.int .i64 rt, .int .i64 fq] w fun e w' => e = .returned (.int .i64 m) ∧ Below w.heap.size w w') := fun w => by rw [← hm]; exact rmul_any rt fq w r0 r1 d1.1 d1.2
         have R : Hid (RATE c step = m) := by show _ = _; rw [E4.out, E3.out, if_pos hlt, hfq, hm]
         have z1 : IntKind.i64.wrap (step + 1) = step + 1 := by rw [IntKind.wrap_i64]; omega
         clear E3 E4 hfq hm f1 f2 d1
         go_enter Tryz.func42, Tryz.ntmps42
         go_upto_region 1 with fail
         rw [HW.out]
         go_wp2_with (first
          | (go_at_call 34; refine (IC.out _).mono ?_; rintro e w1 ⟨rfl, hb⟩; have K1 := K0.out.keep hb; have HK1 : Hid (K5 w 2 st sp wm rt w1) := K1; obtain ⟨k1, k2, k3, k4, k5, k6, k7⟩ := K1; clear hb k6 k7)
          | (go_at_call 68; refine (rin_any _ _ _ _).mono ?_; rintro e w' ⟨rfl, hw'⟩; subst w'; rw [h3])
          | (refine wpList_load_row rfl 24 _ rfl w.heap.size rfl 24 X (0, 0) _ B0.out Tryz.underlying24 rfl X1.out ?_))
         have S0 : w1.drew.cell? ⟨w.heap.size, 13, none⟩ = some (.int .i64 wm) ∧ K5 w 2 st sp wm rt w1.drew := ⟨k4, HK1.out.draw⟩
         clear k1 k2 k3 k4 k5
         go_region_held3 (fun w' => w'.cell? ⟨w.heap.size, 13, none⟩ = some (.int .i64 wm) ∧ K5 w 2 st sp wm rt w') (assumption) (first
          | (go_at_call 40; refine (rfromInt_any _ _ (by omega) (by omega)).mono ?_; rintro e w' ⟨rfl, hw'⟩; subst w')
          | (go_at_call 46; refine (D1.out _).mono ?_; rintro e w2 ⟨rfl, hb⟩; have S1 := keepS13 hb ‹_›))
         all_goals have KK := S1.2
         all_goals obtain ⟨j1, j2, j3, j4, j5, k6, k7⟩ := KK
         all_goals go_wp2_with (first
          | (go_at_call 39; refine (M1.out _).mono ?_; rintro e w3 ⟨rfl, hb⟩; have HK3 : Hid (K5 w 2 st sp wm rt w3) := S1.2.keep hb))
         all_goals go_ret
         all_goals exact ⟨ret_int R.out.symm, HK3.out.2.2.2.2.2.2⟩
       · obtain ⟨mx, hmx⟩ : ∃ m, m = max (st - wm) 1 := ⟨_, rfl⟩
         have f1 := FROMI_bd (step - wm)
         have f2 := FROMI_bd mx
         have mxb : 1 ≤ mx ∧ mx ≤ 200 := by omega
         have d1 := DIV_bd (FROMI (step - wm)) (FROMI mx)
         obtain ⟨fq, hfq⟩ : ∃ f, DIV (FROMI (step - wm)) (FROMI mx) = f := ⟨_, rfl⟩
         have D1 : Hid (∀ w, Calls Tryz.prog 46 #[.int .i64 (FROMI (step - wm)), .int .i64 (FROMI mx)] w fun e w' => e = .returned (.int .i64 fq) ∧ Below w.heap.size w w') := fun w => by rw [← hfq]; exact rdiv_any _ _ w f1.1 f1.2 f2.1 f2.2
         rw [hfq] at d1
         have R : Hid (RATE c step = MUL (MUL rt 1056964608) (ADD 1065353216 (COS (capOne fq)))) := by show _ = _; rw [E4.out, E3.out, if_neg hlt, ← hmx, hfq]
         have m1 := MUL_bd rt 1056964608
         have cb := COS_bd (capOne fq)
         have ab := ADD_bd 1065353216 (COS (capOne fq)) (by omega) (by omega) cb.1 cb.2
         have ofq : 0 ≤ capOne fq ∧ capOne fq < 4294967296 := by unfold capOne; split <;> omega
         have hcf : capOne fq = if LESS 1065353216 fq = true then 1065353216 else fq := rfl
         have L1 : Hid (∀ w, Calls Tryz.prog 77 #[.int .i64 1065353216, .int .i64 fq] w fun e w' => e = .returned (.bool (LESS 1065353216 fq)) ∧ Below w.heap.size w w') := fun w => rless_any 1065353216 fq w (by omega) (by omega) d1.1 d1.2
         obtain ⟨g, hg⟩ : ∃ g, g = capOne fq := ⟨_, rfl⟩
         rw [← hg] at hcf cb ab R ofq
         clear hg
         obtain ⟨co, hco⟩ : ∃ x, COS g = x := ⟨_, rfl⟩
         have C1 : Hid (∀ w, Calls Tryz.prog 78 #[.int .i64 g] w fun e w' => e = .returned (.int .i64 co) ∧ Below w.heap.size w w') := fun w => by rw [← hco]; exact rcos_any g w ofq.1 ofq.2
         rw [hco] at cb ab R
         obtain ⟨ad, had⟩ : ∃ x, ADD 1065353216 co = x := ⟨_, rfl⟩
         have A1 : Hid (∀ w, Calls Tryz.prog 45 #[.int .i64 1065353216, .int .i64 co] w fun e w' => e = .returned (.int .i64 ad) ∧ Below w.heap.size w w') := fun w => by rw [← had]; exact radd_any 1065353216 co w (by omega) (by omega) cb.1 cb.2
         rw [had] at ab R
         obtain ⟨m, hmm⟩ : ∃ x, MUL rt 1056964608 = x := ⟨_, rfl⟩
         have M1 : Hid (∀ w, Calls Tryz.prog 39 #[.int .i64 rt, .int .i64 1056964608] w fun e w' => e = .returned (.int .i64 m) ∧ Below w.heap.size w w') := fun w => by rw [← hmm]; exact rmul_any rt 1056964608 w r0 r1 (by omega) (by omega)
         rw [hmm] at m1 R
         obtain ⟨u, hu⟩ : ∃ x, MUL m ad = x := ⟨_, rfl⟩
         have M2 : Hid (∀ w, Calls Tryz.prog 39 #[.int .i64 m, .int .i64 ad] w fun e w' => e = .returned (.int .i64 u) ∧ Below w.heap.size w w') := fun w => by rw [← hu]; exact rmul_any m ad w m1.1 m1.2 ab.1 ab.2
         rw [hu] at R
         clear hco had hmm hu m1 cb ab ofq hfq E3 E4 f1 f2
         cases hl : LESS 1065353216 fq
         · rw [hl] at hcf L1
           have cf : g = fq := by simpa using hcf
           subst cf
           clear hcf hl
           by_cases hm : st - wm < 1
           · have e1 : mx = 1 := by omega
             subst e1
             clear hmx
             go_enter Tryz.func42, Tryz.ntmps42
             go_upto_region 1 with fail
             rw [HW.out]
             go_wp2_with (first
              | (go_at_call 34; refine (IC.out _).mono ?_; rintro e w1 ⟨rfl, hb⟩; have K1 := K0.out.keep hb; have HK1 : Hid (K5 w 2 st sp wm rt w1) := K1; obtain ⟨k1, k2, k3, k4, k5, k6, k7⟩ := K1; clear hb k6 k7)
              | (go_at_call 68; refine (rin_any _ _ _ _).mono ?_; rintro e w' ⟨rfl, hw'⟩; subst w'; rw [h3])
              | (go_at_call 40; refine (rfromInt_any _ _ (by omega) (by omega)).mono ?_; rintro e w' ⟨rfl, hw'⟩; subst w')
              | (go_at_call 46; refine (D1.out _).mono ?_; rintro e w2 ⟨rfl, hb⟩; have K2 := HK1.out.keep hb; have HK2 : Hid (K5 w 2 st sp wm rt w2) := K2; obtain ⟨j1, j2, j3, j4, j5, k6, k7⟩ := K2; clear hb k6 k7 k1 k2 k3 k4 k5)
              | (go_at_call 77; refine (L1.out _).mono ?_; rintro e w3 ⟨rfl, hb⟩; have K3 := HK2.out.keep hb; have HK3 : Hid (K5 w 2 st sp wm rt w3) := K3; obtain ⟨i1, i2, i3, i4, i5, k6, k7⟩ := K3; clear hb k6 k7 j1 j2 j3 j4 j5)
              | (go_at_call_of 39 (Value.int IntKind.i64 rt); refine (M1.out _).mono ?_; rintro e w4 ⟨rfl, hb⟩; have HK4 : Hid (K5 w 2 st sp wm rt w4) := HK3.out.keep hb; clear hb i1 i2 i3 i4 i5)
              | (go_at_call 78; refine (C1.out _).mono ?_; rintro e w5 ⟨rfl, hb⟩; have HK5 : Hid (K5 w 2 st sp wm rt w5) := HK4.out.keep hb; clear hb)
              | (go_at_call 45; refine (A1.out _).mono ?_; rintro e w6 ⟨rfl, hb⟩; have HK6 : Hid (K5 w 2 st sp wm rt w6) := HK5.out.keep hb; clear hb)
              | (go_at_call_of 39 (Value.int IntKind.i64 m); refine (M2.out _).mono ?_; rintro e w7 ⟨rfl, hb⟩; have HK7 : Hid (K5 w 2 st sp wm rt w7) := HK6.out.keep hb; clear hb)
              | (refine wpList_load_row rfl 24 _ rfl w.heap.size rfl 24 X (0, 0) _ B0.out Tryz.underlying24 rfl X1.out ?_))
             go_ret
             exact ⟨ret_int R.out.symm, HK7.out.2.2.2.2.2.2⟩
           · have e1 : mx = st - wm := by omega
             subst e1
             clear hmx
             go_enter Tryz.func42, Tryz.ntmps42
             go_upto_region 1 with fail
             rw [HW.out]
             go_wp2_with (first
              | (go_at_call 34; refine (IC.out _).mono ?_; rintro e w1 ⟨rfl, hb⟩; have K1 := K0.out.keep hb; have HK1 : Hid (K5 w 2 st sp wm rt w1) := K1; obtain ⟨k1, k2, k3, k4, k5, k6, k7⟩ := K1; clear hb k6 k7)
              | (go_at_call 68; refine (rin_any _ _ _ _).mono ?_; rintro e w' ⟨rfl, hw'⟩; subst w'; rw [h3])
              | (go_at_call 40; refine (rfromInt_any _ _ (by omega) (by omega)).mono ?_; rintro e w' ⟨rfl, hw'⟩; subst w')
              | (go_at_call 46; refine (D1.out _).mono ?_; rintro e w2 ⟨rfl, hb⟩; have K2 := HK1.out.keep hb; have HK2 : Hid (K5 w 2 st sp wm rt w2) := K2; obtain ⟨j1, j2, j3, j4, j5, k6, k7⟩ := K2; clear hb k6 k7 k1 k2 k3 k4 k5)
              | (go_at_call 77; refine (L1.out _).mono ?_; rintro e w3 ⟨rfl, hb⟩; have K3 := HK2.out.keep hb; have HK3 : Hid (K5 w 2 st sp wm rt w3) := K3; obtain ⟨i1, i2, i3, i4, i5, k6, k7⟩ := K3; clear hb k6 k7 j1 j2 j3 j4 j5)
              | (go_at_call_of 39 (Value.int IntKind.i64 rt); refine (M1.out _).mono ?_; rintro e w4 ⟨rfl, hb⟩; have HK4 : Hid (K5 w 2 st sp wm rt w4) := HK3.out.keep hb; clear hb i1 i2 i3 i4 i5)
              | (go_at_call 78; refine (C1.out _).mono ?_; rintro e w5 ⟨rfl, hb⟩; have HK5 : Hid (K5 w 2 st sp wm rt w5) := HK4.out.keep hb; clear hb)
              | (go_at_call 45; refine (A1.out _).mono ?_; rintro e w6 ⟨rfl, hb⟩; have HK6 : Hid (K5 w 2 st sp wm rt w6) := HK5.out.keep hb; clear hb)
              | (go_at_call_of 39 (Value.int IntKind.i64 m); refine (M2.out _).mono ?_; rintro e w7 ⟨rfl, hb⟩; have HK7 : Hid (K5 w 2 st sp wm rt w7) := HK6.out.keep hb; clear hb)
              | (refine wpList_load_row rfl 24 _ rfl w.heap.size rfl 24 X (0, 0) _ B0.out Tryz.underlying24 rfl X1.out ?_))
             go_ret
             exact ⟨ret_int R.out.symm, HK7.out.2.2.2.2.2.2⟩
         · rw [hl] at hcf L1
           have cf : g = 1065353216 := by simpa using hcf
           subst cf
           clear hcf hl
           by_cases hm : st - wm < 1
           · have e1 : mx = 1 := by omega
             subst e1
             clear hmx
             go_enter Tryz.func42, Tryz.ntmps42
             go_upto_region 1 with fail
             rw [HW.out]
             go_wp2_with (first
              | (go_at_call 34; refine (IC.out _).mono ?_; rintro e w1 ⟨rfl, hb⟩; have K1 := K0.out.keep hb; have HK1 : Hid (K5 w 2 st sp wm rt w1) := K1; obtain ⟨k1, k2, k3, k4, k5, k6, k7⟩ := K1; clear hb k6 k7)
              | (go_at_call 68; refine (rin_any _ _ _ _).mono ?_; rintro e w' ⟨rfl, hw'⟩; subst w'; rw [h3])
              | (go_at_call 40; refine (rfromInt_any _ _ (by omega) (by omega)).mono ?_; rintro e w' ⟨rfl, hw'⟩; subst w')
              | (go_at_call 46; refine (D1.out _).mono ?_; rintro e w2 ⟨rfl, hb⟩; have K2 := HK1.out.keep hb; have HK2 : Hid (K5 w 2 st sp wm rt w2) := K2; obtain ⟨j1, j2, j3, j4, j5, k6, k7⟩ := K2; clear hb k6 k7 k1 k2 k3 k4 k5)
              | (go_at_call 77; refine (L1.out _).mono ?_; rintro e w3 ⟨rfl, hb⟩; have K3 := HK2.out.keep hb; have HK3 : Hid (K5 w 2 st sp wm rt w3) := K3; obtain ⟨i1, i2, i3, i4, i5, k6, k7⟩ := K3; clear hb k6 k7 j1 j2 j3 j4 j5)
              | (go_at_call_of 39 (Value.int IntKind.i64 rt); refine (M1.out _).mono ?_; rintro e w4 ⟨rfl, hb⟩; have HK4 : Hid (K5 w 2 st sp wm rt w4) := HK3.out.keep hb; clear hb i1 i2 i3 i4 i5)
              | (go_at_call 78; refine (C1.out _).mono ?_; rintro e w5 ⟨rfl, hb⟩; have HK5 : Hid (K5 w 2 st sp wm rt w5) := HK4.out.keep hb; clear hb)
              | (go_at_call 45; refine (A1.out _).mono ?_; rintro e w6 ⟨rfl, hb⟩; have HK6 : Hid (K5 w 2 st sp wm rt w6) := HK5.out.keep hb; clear hb)
              | (go_at_call_of 39 (Value.int IntKind.i64 m); refine (M2.out _).mono ?_; rintro e w7 ⟨rfl, hb⟩; have HK7 : Hid (K5 w 2 st sp wm rt w7) := HK6.out.keep hb; clear hb)
              | (refine wpList_load_row rfl 24 _ rfl w.heap.size rfl 24 X (0, 0) _ B0.out Tryz.underlying24 rfl X1.out ?_))
             go_ret
             exact ⟨ret_int R.out.symm, HK7.out.2.2.2.2.2.2⟩
           · have e1 : mx = st - wm := by omega
             subst e1
             clear hmx
             go_enter Tryz.func42, Tryz.ntmps42
             go_upto_region 1 with fail
             rw [HW.out]
             go_wp2_with (first
              | (go_at_call 34; refine (IC.out _).mono ?_; rintro e w1 ⟨rfl, hb⟩; have K1 := K0.out.keep hb; have HK1 : Hid (K5 w 2 st sp wm rt w1) := K1; obtain ⟨k1, k2, k3, k4, k5, k6, k7⟩ := K1; clear hb k6 k7)
              | (go_at_call 68; refine (rin_any _ _ _ _).mono ?_; rintro e w' ⟨rfl, hw'⟩; subst w'; rw [h3])
              | (go_at_call 40; refine (rfromInt_any _ _ (by omega) (by omega)).mono ?_; rintro e w' ⟨rfl, hw'⟩; subst w')
              | (go_at_call 46; refine (D1.out _).mono ?_; rintro e w2 ⟨rfl, hb⟩; have K2 := HK1.out.keep hb; have HK2 : Hid (K5 w 2 st sp wm rt w2) := K2; obtain ⟨j1, j2, j3, j4, j5, k6, k7⟩ := K2; clear hb k6 k7 k1 k2 k3 k4 k5)
              | (go_at_call 77; refine (L1.out _).mono ?_; rintro e w3 ⟨rfl, hb⟩; have K3 := HK2.out.keep hb; have HK3 : Hid (K5 w 2 st sp wm rt w3) := K3; obtain ⟨i1, i2, i3, i4, i5, k6, k7⟩ := K3; clear hb k6 k7 j1 j2 j3 j4 j5)
              | (go_at_call_of 39 (Value.int IntKind.i64 rt); refine (M1.out _).mono ?_; rintro e w4 ⟨rfl, hb⟩; have HK4 : Hid (K5 w 2 st sp wm rt w4) := HK3.out.keep hb; clear hb i1 i2 i3 i4 i5)
              | (go_at_call 78; refine (C1.out _).mono ?_; rintro e w5 ⟨rfl, hb⟩; have HK5 : Hid (K5 w 2 st sp wm rt w5) := HK4.out.keep hb; clear hb)
              | (go_at_call 45; refine (A1.out _).mono ?_; rintro e w6 ⟨rfl, hb⟩; have HK6 : Hid (K5 w 2 st sp wm rt w6) := HK5.out.keep hb; clear hb)
              | (go_at_call_of 39 (Value.int IntKind.i64 m); refine (M2.out _).mono ?_; rintro e w7 ⟨rfl, hb⟩; have HK7 : Hid (K5 w 2 st sp wm rt w7) := HK6.out.keep hb; clear hb)
              | (refine wpList_load_row rfl 24 _ rfl w.heap.size rfl 24 X (0, 0) _ B0.out Tryz.underlying24 rfl X1.out ?_))
             go_ret
             exact ⟨ret_int R.out.symm, HK7.out.2.2.2.2.2.2⟩
end Go.Proofs.YtoihkljlekknkaaGreat
