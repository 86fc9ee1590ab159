/-
  The rule Adam, of the program. Conditions: the patterns are 0 to 2^32 - 1; the blocks are apart.
-/
import Derived.Test.YtoihkljlekknkaaGreatAp18
namespace Go.Proofs.YtoihkljlekknkaaGreat
open Go.RowKit
open Go.Joins (cell_of_block unfrozen_of_block)
set_option linter.unusedVariables false
set_option linter.unusedSimpArgs false
/-- the moments and the parameters behind a step by the rule Adam -/
def ADV1 (beta : Int) (V g : List Int) (k : Nat) : Int := BLD beta (V.getD k 0) (g.getD k 0)
def ADW1 (gamma : Int) (M g : List Int) (k : Nat) : Int := BLD gamma (M.getD k 0) (MUL (g.getD k 0) (g.getD k 0))
def ADP1 (beta gamma small rate : Int) (st : Nat) (P V M g : List Int) (k : Nat) : Int :=
 SUB (P.getD k 0) (DIV (MUL rate (DIV (ADV1 beta V g k) (SUB 1065353216 (POWN beta (st + 1))))) (ADD (SQRT (DIV (ADW1 gamma M g k) (SUB 1065353216 (POWN gamma (st + 1))))) small))
def ADV (beta : Int) (V g : List Int) : List Int := (List.range g.length).map (ADV1 beta V g)
def ADW (gamma : Int) (M g : List Int) : List Int := (List.range g.length).map (ADW1 gamma M g)
def ADP (beta gamma small rate : Int) (st : Nat) (P V M g : List Int) : List Int := (List.range g.length).map (ADP1 beta gamma small rate st P V M g)
theorem drawn2 (w : World) (n : Nat) : Below w.heap.size w (w.drew.drewN n) := ⟨rfl, rfl, rfl, Nat.le_refl _, fun _ _ => rfl⟩
set_option maxHeartbeats 16000000 in
set_option maxRecDepth 100000 in
theorem adam_any (T gl cl n st : Nat) (s : St) (beta gamma small rate : Int) (P V M g : List Int) (w : World) (ok : s.ok) (hs : StS s n st P V M w) (tl : T < w.heap.size) (hT : w.cell? ⟨T, 16, none⟩ = some (.int .u32 beta)) (hT7 : w.cell? ⟨T, 17, none⟩ = some (.int .u32 gamma)) (hT8 : w.cell? ⟨T, 18, none⟩ = some (.int .u32 small)) (hg : w.heap[gl]? = some (.cells (u32s g) 29 (0, 0))) (gn : g.length = n)
 (tP : T ≠ s.gP) (tV : T ≠ s.gV) (tW : T ≠ s.gW) (gP : gl ≠ s.gP) (gV : gl ≠ s.gV) (gW : gl ≠ s.gW) (pP : pats P) (pV : pats V) (pM : pats M) (pg : pats g) (hb : 0 ≤ beta ∧ beta < 4294967296) (hc : 0 ≤ gamma ∧ gamma < 4294967296) (hm : 0 ≤ small ∧ small < 4294967296) (hr : 0 ≤ rate ∧ rate < 4294967296) (n4 : n ≤ 1000) (st4 : st ≤ 1000000) :
 Calls Tryz.prog 30 #[.pointer (some ⟨T, 0, none⟩), .pointer (some ⟨s.Ss, 0, none⟩), .slice (some ⟨gl, 0, none⟩) n cl, .int .u32 rate] w fun e w' => e = .returned (.tuple #[]) ∧ w'.heap[s.gP]? = some (.cells (u32s (ADP beta gamma small rate st P V M g)) 29 (0, 0)) ∧ w'.heap[s.gV]? = some (.cells (u32s (ADV beta V g)) 29 (0, 0)) ∧ w'.heap[s.gW]? = some (.cells (u32s (ADW gamma M g)) 29 (0, 0)) ∧ But (fun k => k = s.gP ∨ k = s.gV ∨ k = s.gW) w w' := by
 obtain ⟨C, h0, d0, d1, d2, d3⟩ := hs.sb
 have SC : Hid (∀ {X}, But (fun k => k = s.gP ∨ k = s.gV ∨ k = s.gW) w X → (X.cell? ⟨T, 16, none⟩ = some (.int .u32 beta) ∧ X.cell? ⟨T, 17, none⟩ = some (.int .u32 gamma) ∧ X.cell? ⟨T, 18, none⟩ = some (.int .u32 small)) ∧ (X.cell? ⟨s.Ss, 1, none⟩ = some (.slice (some ⟨s.gP, 0, none⟩) n n) ∧ X.cell? ⟨s.Ss, 2, none⟩ = some (.slice (some ⟨s.gV, 0, none⟩) n n) ∧ X.cell? ⟨s.Ss, 3, none⟩ = some (.slice (some ⟨s.gW, 0, none⟩) n n)) ∧ ∀ i, i < n → X.cell? ⟨gl, i, none⟩ = some (.int .u32 (g.getD i 0))) := fun {X} h => by
  have q : ¬ (s.Ss = s.gP ∨ s.Ss = s.gV ∨ s.Ss = s.gW) := by rintro (e | e | e); exact ok.SP e; exact ok.SV e; exact ok.SW e
  have qt : ¬ (T = s.gP ∨ T = s.gV ∨ T = s.gW) := by rintro (e | e | e); exact tP e; exact tV e; exact tW e
  refine ⟨⟨(h.cell tl qt _).trans hT, (h.cell tl qt _).trans hT7, (h.cell tl qt _).trans hT8⟩, ⟨(h.cell (lt_of_heap h0) q _).trans ((cell_of_block h0 _).trans d1), (h.cell (lt_of_heap h0) q _).trans ((cell_of_block h0 _).trans d2), (h.cell (lt_of_heap h0) q _).trans ((cell_of_block h0 _).trans d3)⟩, fun i hi => (h.cell (lt_of_heap hg) (by rintro (e | e | e); exact gP e; exact gV e; exact gW e) i).trans ((cell_of_block hg i).trans (u32s_at g i (by omega)))⟩
 have S00 : w.cell? ⟨s.Ss, 0, none⟩ = some (.int .i64 (st : Int)) := (cell_of_block h0 _).trans d0
 have HP0 : Hid _ := hs.p
 have HV0 : Hid _ := hs.v
 have HM0 : Hid _ := hs.m
 have LP0 : Hid _ := hs.pl
 have LV0 : Hid _ := hs.vl
 have LM0 : Hid _ := hs.ml
 have PVn : Hid _ := ok.PV
 have PWn : Hid _ := ok.PW
 have VWn : Hid _ := ok.VW
 have HPP : Hid _ := pP
 have HPV : Hid _ := pV
 have HPM : Hid _ := pM
 have HPG : Hid _ := pg
 obtain ⟨Ss, hSs⟩ : ∃ x, x = s.Ss := ⟨_, rfl⟩
 obtain ⟨GP, hGP⟩ : ∃ x, x = s.gP := ⟨_, rfl⟩
 obtain ⟨GV, hGV⟩ : ∃ x, x = s.gV := ⟨_, rfl⟩
 obtain ⟨GW, hGW⟩ : ∃ x, x = s.gW := ⟨_, rfl⟩
 rw [← hSs, ← hGP, ← hGV, ← hGW] at SC
 rw [← hSs] at S00
 rw [← hGP] at HP0 PVn PWn
 rw [← hGV] at HV0 PVn VWn
 rw [← hGW] at HM0 PWn VWn
 rw [← hSs, ← hGP, ← hGV, ← hGW]
 obtain ⟨fu, hfu⟩ : ∃ f, f = SUB 1065353216 (POWN beta (st + 1)) := ⟨_, rfl⟩
 obtain ⟨fs, hfs⟩ : ∃ f, f = SUB 1065353216 (POWN gamma (st + 1)) := ⟨_, rfl⟩
 have pb1 := POWN_bd beta (st + 1)
 have pb2 := POWN_bd gamma (st + 1)
 have fub : 0 ≤ fu ∧ fu < 4294967296 := by rw [hfu]; exact SUB_bd _ _ (by omega) (by omega)
 have fsb : 0 ≤ fs ∧ fs < 4294967296 := by rw [hfs]; exact SUB_bd _ _ (by omega) (by omega)
 obtain ⟨FP, hFP⟩ : ∃ f, f = ADP1 beta gamma small rate st P V M g := ⟨_, rfl⟩
 obtain ⟨FV, hFV⟩ : ∃ f, f = ADV1 beta V g := ⟨_, rfl⟩
 obtain ⟨FW, hFW⟩ : ∃ f, f = ADW1 gamma M g := ⟨_, rfl⟩
 have EP : Hid (ADP beta gamma small rate st P V M g = (List.range n).map FP) := by show _ = _; rw [hFP, ← gn]; rfl
 have EV : Hid (ADV beta V g = (List.range n).map FV) := by show _ = _; rw [hFV, ← gn]; rfl
 have EW : Hid (ADW gamma M g = (List.range n).map FW) := by show _ = _; rw [hFW, ← gn]; rfl
 have FPe : Hid (∀ k, FP k = SUB (P.getD k 0) (DIV (MUL rate (DIV (FV k) fu)) (ADD (SQRT (DIV (FW k) fs)) small))) := fun k => by rw [hFP, hFV, hFW, hfu, hfs]; rfl
 have FVe : Hid (∀ k, FV k = BLD beta (V.getD k 0) (g.getD k 0)) := fun k => by rw [hFV]; rfl
 have FWe : Hid (∀ k, FW k = BLD gamma (M.getD k 0) (MUL (g.getD k 0) (g.getD k 0))) := fun k => by rw [hFW]; rfl
 rw [EP.out, EV.out, EW.out]
 obtain ⟨sI, hsI⟩ : ∃ x : Int, x = (st : Int) := ⟨_, rfl⟩
 obtain ⟨s1, hs1⟩ : ∃ x : Int, x = (st : Int) + 1 := ⟨_, rfl⟩
 have wr1 : IntKind.i64.wrap (sI + 1) = s1 := by rw [hsI, hs1, IntKind.wrap_i64]; omega
 rw [← hsI] at S00
 have Y1 : Hid (∀ U, Calls Tryz.prog 65 #[.int .u32 beta, .int .i64 s1] U fun e w' => e = .returned (.int .u32 (POWN beta (st + 1))) ∧ w' = U) := fun U => by
  have := power_any beta (st + 1) U hb.1 hb.2 (by omega)
  rw [show ((st + 1 : Nat) : Int) = s1 by rw [hs1]; omega] at this; exact this
 have Y2 : Hid (∀ U, Calls Tryz.prog 65 #[.int .u32 gamma, .int .i64 s1] U fun e w' => e = .returned (.int .u32 (POWN gamma (st + 1))) ∧ w' = U) := fun U => by
  have := power_any gamma (st + 1) U hc.1 hc.2 (by omega)
  rw [show ((st + 1 : Nat) : Int) = s1 by rw [hs1]; omega] at this; exact this
 have Y3 : Hid (∀ U, Calls Tryz.prog 64 #[.int .u32 1065353216, .int .u32 (POWN beta (st + 1))] U fun e w' => e = .returned (.int .u32 fu) ∧ w' = U) := fun U => by rw [hfu]; exact sub_any _ _ U (by omega) (by omega) pb1.1 pb1.2
 have Y4 : Hid (∀ U, Calls Tryz.prog 64 #[.int .u32 1065353216, .int .u32 (POWN gamma (st + 1))] U fun e w' => e = .returned (.int .u32 fs) ∧ w' = U) := fun U => by rw [hfs]; exact sub_any _ _ U (by omega) (by omega) pb2.1 pb2.2
 obtain ⟨q1, hq1⟩ : ∃ v, v = POWN beta (st + 1) := ⟨_, rfl⟩
 obtain ⟨q2, hq2⟩ : ∃ v, v = POWN gamma (st + 1) := ⟨_, rfl⟩
 rw [← hq1] at Y1 Y3
 rw [← hq2] at Y2 Y4
 have tt := (SC.out (But.refl _ _)).1
 have t16 := tt.1
 have t17 := tt.2.1
 clear tt EP EV EW hFP hFV hFW hs ok h0 d0 d1 d2 d3 hT hT7 hT8 hg pP pV pM pg tl tP tV tW gP gV gW hSs hGP hGV hGW gn hfu hfs pb1 pb2 hsI hs1 hq1 hq2
 go_enter Tryz.func30, Tryz.ntmps30
 go_upto_region 0 with fail
 go_region_held3 (fun w' => w'.cell? ⟨T, 16, none⟩ = some (.int .u32 beta) ∧ w'.cell? ⟨Ss, 0, none⟩ = some (.int .i64 sI)) (exact ⟨t16, S00⟩) (first
  | (go_at_call 65; refine (Y1.out _).mono ?_; rintro e w6 ⟨rfl, hw'⟩; subst w6)
  | (go_at_call 64; refine (Y3.out _).mono ?_; rintro e w7 ⟨rfl, hw'⟩; subst w7))
 go_upto_region 1 with fail
 go_region_held3 (fun w' => w'.cell? ⟨T, 17, none⟩ = some (.int .u32 gamma) ∧ w'.cell? ⟨Ss, 0, none⟩ = some (.int .i64 sI)) (exact ⟨t17, S00⟩) (first
  | (go_at_call 65; refine (Y2.out _).mono ?_; rintro e w6 ⟨rfl, hw'⟩; subst w6)
  | (go_at_call 64; refine (Y4.out _).mono ?_; rintro e w7 ⟨rfl, hw'⟩; subst w7))
 go_wp2
 clear t16 t17 S00 wr1 Y1 Y2 Y3 Y4
 go_loopw [42] (fun iv wr => ∃ i : Nat, i ≤ n ∧ iv = .int .i64 i ∧ ∃ lp lv lm : List Int, Hid (lp.length = n) ∧ Hid (lv.length = n) ∧ Hid (lm.length = n) ∧ Hid (∀ k, k < i → lp.getD k 0 = FP k ∧ lv.getD k 0 = FV k ∧ lm.getD k 0 = FW k) ∧ Hid (∀ k, i ≤ k → lp.getD k 0 = P.getD k 0 ∧ lv.getD k 0 = V.getD k 0 ∧ lm.getD k 0 = M.getD k 0) ∧ Hid (wr.heap[GP]? = some (.cells (u32s lp) 29 (0, 0))) ∧ Hid (wr.heap[GV]? = some (.cells (u32s lv) 29 (0, 0))) ∧ Hid (wr.heap[GW]? = some (.cells (u32s lm) 29 (0, 0))) ∧ Hid (But (fun k => k = GP ∨ k = GV ∨ k = GW) w wr)) (fun iv _ => n - (intOf iv).toNat)
 case atStart => exact ⟨0, by omega, rfl, P, V, M, LP0.out, LV0.out, LM0.out, fun k hk => absurd hk (by omega), fun _ _ => ⟨rfl, rfl, rfl⟩, HP0.out, HV0.out, HM0.out, But.below (((Below.refl _ _).drew).drew)⟩
 case round =>
  clear HP0 HV0 HM0 LP0 LV0 LM0
  obtain ⟨i, hi, rfl, lp, lv, lm, LP, LV, LM, LI, LJ, HP, HV, HM, UW⟩ := hrel
  by_cases hlt : i < n
  · obtain ⟨⟨t16, t17, t18⟩, ⟨_, s2, s3⟩, gi⟩ := SC.out UW.out
    have gi1 := gi i hlt
    have jj := LJ.out i (Nat.le_refl _)
    have vi : wr.cell? ⟨GV, i, none⟩ = some (.int .u32 (V.getD i 0)) := by rw [cell_of_block HV.out, u32s_at lv i (by rw [LV.out]; exact hlt), jj.2.1]
    have mi : wr.cell? ⟨GW, i, none⟩ = some (.int .u32 (M.getD i 0)) := by rw [cell_of_block HM.out, u32s_at lm i (by rw [LM.out]; exact hlt), jj.2.2]
    have fv : wr.frozen? ⟨GV, i, none⟩ = false := unfrozen_of_block HV.out _
    have pb := pats_at HPP.out i
    have vb := pats_at HPV.out i
    have mb := pats_at HPM.out i
    have gb := pats_at HPG.out i
    have e1 : Hid _ := FVe.out i
    have e2 : Hid _ := FWe.out i
    have e3 : Hid _ := FPe.out i
    have JP : Hid _ := jj.1
    obtain ⟨pv, hpv⟩ : ∃ v, v = P.getD i 0 := ⟨_, rfl⟩
    obtain ⟨vv, hvv⟩ : ∃ v, v = V.getD i 0 := ⟨_, rfl⟩
    obtain ⟨mv, hmv⟩ : ∃ v, v = M.getD i 0 := ⟨_, rfl⟩
    obtain ⟨gv, hgv⟩ : ∃ v, v = g.getD i 0 := ⟨_, rfl⟩
    rw [← hpv] at pb e3 JP
    rw [← hvv] at vi vb e1
    rw [← hmv] at mi mb e2
    rw [← hgv] at gi1 gb e1 e2
    have X1 : Hid (∀ U, Calls Tryz.prog 66 #[.int .u32 beta, .int .u32 vv, .int .u32 gv] U fun e w' => e = .returned (.int .u32 (FV i)) ∧ w' = U) := fun U => by rw [e1.out]; exact blend_any beta vv gv U hb vb gb
    have bG := MUL_bd' gv gv
    have X2 : Hid (∀ U, Calls Tryz.prog 61 #[.int .u32 gv, .int .u32 gv] U fun e w' => e = .returned (.int .u32 (MUL gv gv)) ∧ w' = U) := fun U => mul_any gv gv U gb.1 gb.2 gb.1 gb.2
    have X3 : Hid (∀ U, Calls Tryz.prog 66 #[.int .u32 gamma, .int .u32 mv, .int .u32 (MUL gv gv)] U fun e w' => e = .returned (.int .u32 (FW i)) ∧ w' = U) := fun U => by rw [e2.out]; exact blend_any gamma mv _ U hc mb bG
    obtain ⟨gg, hgg⟩ : ∃ v, v = MUL gv gv := ⟨_, rfl⟩
    rw [← hgg] at X2 X3
    have f1b : 0 ≤ FV i ∧ FV i < 4294967296 := by rw [e1.out]; exact BLD_bd _ _ _
    have f2b : 0 ≤ FW i ∧ FW i < 4294967296 := by rw [e2.out]; exact BLD_bd _ _ _
    obtain ⟨f1, hf1⟩ : ∃ v, v = FV i := ⟨_, rfl⟩
    obtain ⟨f2, hf2⟩ : ∃ v, v = FW i := ⟨_, rfl⟩
    have F1 : Hid _ := hf1
    have F2 : Hid _ := hf2
    rw [← hf1] at X1 f1b e3
    rw [← hf2] at X3 f2b e3
    have dA := DIV_bd f1 fu
    have X4 : Hid (∀ U, Calls Tryz.prog 58 #[.int .u32 f1, .int .u32 fu] U fun e w' => e = .returned (.int .u32 (DIV f1 fu)) ∧ ∃ n, w' = U.drewN n) := fun U => div_any _ _ U f1b.1 f1b.2 fub.1 fub.2
    have X5 : Hid (∀ U, Calls Tryz.prog 61 #[.int .u32 rate, .int .u32 (DIV f1 fu)] U fun e w' => e = .returned (.int .u32 (MUL rate (DIV f1 fu))) ∧ w' = U) := fun U => mul_any rate _ U hr.1 hr.2 dA.1 dA.2
    have bU := MUL_bd' rate (DIV f1 fu)
    obtain ⟨a1, ha1⟩ : ∃ v, v = DIV f1 fu := ⟨_, rfl⟩
    rw [← ha1] at X4 X5 e3 bU
    obtain ⟨up, hup⟩ : ∃ v, v = MUL rate a1 := ⟨_, rfl⟩
    rw [← hup] at X5 e3 bU
    have dB := DIV_bd f2 fs
    have X6 : Hid (∀ U, Calls Tryz.prog 58 #[.int .u32 f2, .int .u32 fs] U fun e w' => e = .returned (.int .u32 (DIV f2 fs)) ∧ ∃ n, w' = U.drewN n) := fun U => div_any _ _ U f2b.1 f2b.2 fsb.1 fsb.2
    have X7 : Hid (∀ U, Calls Tryz.prog 62 #[.int .u32 (DIV f2 fs)] U fun e w' => e = .returned (.int .u32 (SQRT (DIV f2 fs))) ∧ w' = U) := fun U => sqrt_any _ U dB.1 dB.2
    have sB := SQRT_bd (DIV f2 fs) dB
    have X8 : Hid (∀ U, Calls Tryz.prog 56 #[.int .u32 (SQRT (DIV f2 fs)), .int .u32 small] U fun e w' => e = .returned (.int .u32 (ADD (SQRT (DIV f2 fs)) small)) ∧ w' = U) := fun U => add_any _ small U sB.1 sB.2 hm.1 hm.2
    have bD := ADD_bd (SQRT (DIV f2 fs)) small sB.1 sB.2 hm.1 hm.2
    obtain ⟨a2, ha2⟩ : ∃ v, v = DIV f2 fs := ⟨_, rfl⟩
    rw [← ha2] at X6 X7 X8 e3 bD
    obtain ⟨a3, ha3⟩ : ∃ v, v = SQRT a2 := ⟨_, rfl⟩
    rw [← ha3] at X7 X8 e3 bD
    obtain ⟨dn, hdn⟩ : ∃ v, v = ADD a3 small := ⟨_, rfl⟩
    rw [← hdn] at X8 e3 bD
    have dC := DIV_bd up dn
    have X9 : Hid (∀ U, Calls Tryz.prog 58 #[.int .u32 up, .int .u32 dn] U fun e w' => e = .returned (.int .u32 (DIV up dn)) ∧ ∃ n, w' = U.drewN n) := fun U => div_any _ _ U bU.1 bU.2 bD.1 bD.2
    have X10 : Hid (∀ U, Calls Tryz.prog 64 #[.int .u32 pv, .int .u32 (DIV up dn)] U fun e w' => e = .returned (.int .u32 (FP i)) ∧ w' = U) := fun U => by rw [e3.out]; exact sub_any pv _ U pb.1 pb.2 dC.1 dC.2
    obtain ⟨a4, ha4⟩ : ∃ v, v = DIV up dn := ⟨_, rfl⟩
    rw [← ha4] at X9 X10
    obtain ⟨f3, hf3⟩ : ∃ v, v = FP i := ⟨_, rfl⟩
    have F3 : Hid _ := hf3
    rw [← hf3] at X10
    have il : (i : Int) < (n : Int) := by omega
    have i0 : (0 : Int) ≤ (i : Int) := by omega
    clear hpv hvv hmv hgv hgg hf1 hf2 hf3 ha1 ha2 ha3 ha4 hup hdn gi jj bG dA dB dC sB e1 e2 e3 pb vb mb gb f1b f2b bU bD
    go_upto_region 5 with fail
    go_region_held3 (fun w' => w'.cell? ⟨T, 16, none⟩ = some (.int .u32 beta) ∧ w'.cell? ⟨Ss, 2, none⟩ = some (.slice (some ⟨GV, 0, none⟩) n n) ∧ w'.cell? ⟨GV, i, none⟩ = some (.int .u32 vv)) (exact ⟨t16, s2, vi⟩) (first
     | (go_at_call 66; refine (X1.out _).mono ?_; rintro e w6 ⟨rfl, hw'⟩; subst w6))
    go_upto_region 6 with fail
    go_region_held3 (fun w' => w'.cell? ⟨T, 17, none⟩ = some (.int .u32 gamma) ∧ w'.cell? ⟨Ss, 3, none⟩ = some (.slice (some ⟨GW, 0, none⟩) n n) ∧ w'.cell? ⟨GW, i, none⟩ = some (.int .u32 mv)) (exact ⟨t17, s3, mi⟩) (first
     | (go_at_call 61; refine (X2.out _).mono ?_; rintro e w6 ⟨rfl, hw'⟩; subst w6)
     | (go_at_call 66; refine (X3.out _).mono ?_; rintro e w6 ⟨rfl, hw'⟩; subst w6))
    go_upto_region 7 with fail
    obtain ⟨W6, hW6⟩ : ∃ W, W = wr.drew.drew := ⟨_, rfl⟩
    have P6 : Hid (W6.heap[GP]? = some (.cells (u32s lp) 29 (0, 0))) := by show _ = _; rw [hW6]; exact HP.out
    have V6 : Hid (W6.heap[GV]? = some (.cells (u32s lv) 29 (0, 0))) := by show _ = _; rw [hW6]; exact HV.out
    have M6 : Hid (W6.heap[GW]? = some (.cells (u32s lm) 29 (0, 0))) := by show _ = _; rw [hW6]; exact HM.out
    have U6 : Hid (But (fun k => k = GP ∨ k = GV ∨ k = GW) w W6) := by show But _ _ _; rw [hW6]; exact UW.out.trans (But.below (((Below.refl _ _).drew).drew))
    rw [← hW6]
    clear hW6 t16 t17 t18 s2 s3 gi1 vi mi fv HP HV HM UW
    obtain ⟨W7, hW7⟩ : ∃ W, W = (W6.setCell ⟨GV, i, none⟩ (.int .u32 f1)).drew := ⟨_, rfl⟩
    have P7 : Hid (W7.heap[GP]? = some (.cells (u32s lp) 29 (0, 0))) := by show _ = _; rw [hW7]; show (W6.setCell ⟨GV, i, none⟩ (.int .u32 f1)).heap[GP]? = _; rw [heap_set_ne W6 GV i GP _ PVn.out]; exact P6.out
    have V7 : Hid (W7.heap[GV]? = some (.cells (u32s (lv.set i f1)) 29 (0, 0))) := by show _ = _; rw [hW7]; show (W6.setCell ⟨GV, i, none⟩ (.int .u32 f1)).heap[GV]? = _; rw [heap_set W6 GV i _ (u32s lv) 29 (0, 0) V6.out, u32s_set]
    have M7 : Hid (W7.heap[GW]? = some (.cells (u32s lm) 29 (0, 0))) := by show _ = _; rw [hW7]; show (W6.setCell ⟨GV, i, none⟩ (.int .u32 f1)).heap[GW]? = _; rw [heap_set_ne W6 GV i GW _ (Ne.symm VWn.out)]; exact M6.out
    have U7 : Hid (But (fun k => k = GP ∨ k = GV ∨ k = GW) w W7) := by show But _ _ _; rw [hW7]; exact (U6.out.trans (But.set W6 GV i _ (Or.inr (Or.inl rfl)))).trans (But.below ((Below.refl _ _).drew))
    obtain ⟨W8, hW8⟩ : ∃ W, W = W7.setCell ⟨GW, i, none⟩ (.int .u32 f2) := ⟨_, rfl⟩
    have P8 : Hid (W8.heap[GP]? = some (.cells (u32s lp) 29 (0, 0))) := by show _ = _; rw [hW8, heap_set_ne W7 GW i GP _ PWn.out]; exact P7.out
    have V8 : Hid (W8.heap[GV]? = some (.cells (u32s (lv.set i f1)) 29 (0, 0))) := by show _ = _; rw [hW8, heap_set_ne W7 GW i GV _ VWn.out]; exact V7.out
    have M8 : Hid (W8.heap[GW]? = some (.cells (u32s (lm.set i f2)) 29 (0, 0))) := by show _ = _; rw [hW8, heap_set W7 GW i _ (u32s lm) 29 (0, 0) M7.out, u32s_set]
    have U8 : Hid (But (fun k => k = GP ∨ k = GV ∨ k = GW) w W8) := by show But _ _ _; rw [hW8]; exact U7.out.trans (But.set W7 GW i _ (Or.inr (Or.inr rfl)))
    have S6 : W6.cell? ⟨Ss, 2, none⟩ = some (.slice (some ⟨GV, 0, none⟩) n n) ∧ W6.cell? ⟨Ss, 3, none⟩ = some (.slice (some ⟨GW, 0, none⟩) n n) := (SC.out U6.out).2.1.2
    have S7 : Hid (W7.cell? ⟨Ss, 2, none⟩ = some (.slice (some ⟨GV, 0, none⟩) n n) ∧ W7.cell? ⟨Ss, 3, none⟩ = some (.slice (some ⟨GW, 0, none⟩) n n)) := (SC.out U7.out).2.1.2
    have S8 : Hid (W8.cell? ⟨Ss, 2, none⟩ = some (.slice (some ⟨GV, 0, none⟩) n n) ∧ W8.cell? ⟨Ss, 3, none⟩ = some (.slice (some ⟨GW, 0, none⟩) n n)) := (SC.out U8.out).2.1.2
    have v6 : W6.cell? ⟨GV, i, none⟩ = some (.int .u32 (lv.getD i 0)) := (cell_of_block V6.out _).trans (u32s_at lv i (by rw [LV.out]; exact hlt))
    have z6 : W6.frozen? ⟨GV, i, none⟩ = false := unfrozen_of_block V6.out _
    have m7 : (W6.setCell ⟨GV, i, none⟩ (.int .u32 f1)).drew.cell? ⟨GW, i, none⟩ = some (.int .u32 (lm.getD i 0)) := by rw [← hW7]; exact (cell_of_block M7.out _).trans (u32s_at lm i (by rw [LM.out]; exact hlt))
    have z7 : (W6.setCell ⟨GV, i, none⟩ (.int .u32 f1)).drew.frozen? ⟨GW, i, none⟩ = false := by rw [← hW7]; exact unfrozen_of_block M7.out _
    have HW8 : Hid (W8 = ((W6.setCell ⟨GV, i, none⟩ (.int .u32 f1)).drew).setCell ⟨GW, i, none⟩ (.int .u32 f2)) := by show _ = _; rw [hW8, hW7]
    rw [hW7] at S7
    rw [HW8.out] at S8
    clear hW7 hW8 P6 V6 M6 U6 P7 V7 M7 U7
    go_region_held3 (fun w' => w'.cell? ⟨Ss, 2, none⟩ = some (.slice (some ⟨GV, 0, none⟩) n n) ∧ w'.cell? ⟨Ss, 3, none⟩ = some (.slice (some ⟨GW, 0, none⟩) n n)) (first | exact S6 | exact S7.out | exact S8.out) (fail)
    obtain ⟨W9, hW9⟩ : ∃ W, W = ((W6.setCell ⟨GV, i, none⟩ (.int .u32 f1)).setCell ⟨GW, i, none⟩ (.int .u32 f2)).drew := ⟨_, rfl⟩
    have P9 : Hid (W9.heap[GP]? = some (.cells (u32s lp) 29 (0, 0))) := by have h := P8.out; rw [HW8.out] at h; show _ = _; rw [hW9]; exact h
    have V9 : Hid (W9.heap[GV]? = some (.cells (u32s (lv.set i f1)) 29 (0, 0))) := by have h := V8.out; rw [HW8.out] at h; show _ = _; rw [hW9]; exact h
    have M9 : Hid (W9.heap[GW]? = some (.cells (u32s (lm.set i f2)) 29 (0, 0))) := by have h := M8.out; rw [HW8.out] at h; show _ = _; rw [hW9]; exact h
    have U9 : Hid (But (fun k => k = GP ∨ k = GV ∨ k = GW) w W9) := by
     have h := U8.out; rw [HW8.out] at h; show But _ _ _; rw [hW9]
     exact ⟨h.os, h.tape, h.output, h.size, h.block⟩
    rename_i hHeld
    rw [← hW9]
    clear hHeld hW9 P8 V8 M8 U8 S6 S7 S8 v6 z6 m7 z7 HW8
    go_upto_region 9 with (first
     | (go_at_call 58; refine (X4.out _).mono ?_; rintro e w10 ⟨rfl, n10, hw10⟩
        have b10 : Below W9.heap.size W9 w10 := by rw [hw10]; exact Go.Joins.below_draws _ _ _
        have P10 : Hid (w10.heap[GP]? = some (.cells (u32s lp) 29 (0, 0))) := (b10.block _ (lt_of_heap P9.out)).trans P9.out
        have V10 : Hid (w10.heap[GV]? = some (.cells (u32s (lv.set i f1)) 29 (0, 0))) := (b10.block _ (lt_of_heap V9.out)).trans V9.out
        have M10 : Hid (w10.heap[GW]? = some (.cells (u32s (lm.set i f2)) 29 (0, 0))) := (b10.block _ (lt_of_heap M9.out)).trans M9.out
        have U10 : Hid (But (fun k => k = GP ∨ k = GV ∨ k = GW) w w10) := U9.out.trans (But.below b10)
        have t10 : w10.cell? ⟨T, 18, none⟩ = some (.int .u32 small) := (SC.out U10.out).1.2.2
        clear hw10 b10)
     | (go_at_call 61; refine (X5.out _).mono ?_; rintro e w11 ⟨rfl, hw'⟩; subst w11))
    clear P9 V9 M9 U9
    go_region_held3 (fun w' => w'.cell? ⟨T, 18, none⟩ = some (.int .u32 small)) (first | exact t10 | exact t12) (first
     | (go_at_call 58; refine (X6.out _).mono ?_; rintro e w12 ⟨rfl, n12, hw12⟩
        have b12 : Below w10.heap.size w10 w12 := by rw [hw12]; exact drawn2 _ _
        have P12 : Hid (w12.heap[GP]? = some (.cells (u32s lp) 29 (0, 0))) := (b12.block _ (lt_of_heap P10.out)).trans P10.out
        have V12 : Hid (w12.heap[GV]? = some (.cells (u32s (lv.set i f1)) 29 (0, 0))) := (b12.block _ (lt_of_heap V10.out)).trans V10.out
        have M12 : Hid (w12.heap[GW]? = some (.cells (u32s (lm.set i f2)) 29 (0, 0))) := (b12.block _ (lt_of_heap M10.out)).trans M10.out
        have U12 : Hid (But (fun k => k = GP ∨ k = GV ∨ k = GW) w w12) := U10.out.trans (But.below b12)
        have t12 : w12.cell? ⟨T, 18, none⟩ = some (.int .u32 small) := (SC.out U12.out).1.2.2
        clear hw12 b12)
     | (go_at_call 62; refine (X7.out _).mono ?_; rintro e w13 ⟨rfl, hw'⟩; subst w13)
     | (go_at_call 56; refine (X8.out _).mono ?_; rintro e w14 ⟨rfl, hw'⟩; subst w14))
    clear P10 V10 M10 U10 t10 t12
    rename_i hHeld
    clear hHeld
    have s12 : w12.cell? ⟨Ss, 1, none⟩ = some (.slice (some ⟨GP, 0, none⟩) n n) := (SC.out U12.out).2.1.1
    have p12 : w12.cell? ⟨GP, i, none⟩ = some (.int .u32 pv) := by rw [cell_of_block P12.out, u32s_at lp i (by rw [LP.out]; exact hlt), JP.out]
    have z12 : w12.frozen? ⟨GP, i, none⟩ = false := unfrozen_of_block P12.out _
    go_upto_region 10 with fail
    refine wp_region_held_drew (S := fun w' => w'.cell? ⟨Ss, 1, none⟩ = some (.slice (some ⟨GP, 0, none⟩) n n)) (by kernel_rfl) s12 (fun hS => ?_)
    refine wpAnyH_take (i := 0) (oi := ⟨some 106, .move (.tmp 1), 41, "training.go:134", #[], none⟩) (v := ?_) rfl (by kernel_rfl) (by kernel_rfl) (by kernel_rfl) (fun _ _ _ h => h) (Or.inl ⟨by kernel_rfl, ?_⟩) hS ?_
    rotate_left
    · intro w hSw; (try dsimp only at hSw); go_simp; (try with_reducible rfl)
    try go_frame
    refine wpAnyH_take (i := 1) (oi := ⟨some 107, .nilCheck (.tmp 106), 0, "training.go:134", #[⟨0, .data⟩], none⟩) (v := ?_) rfl (by kernel_rfl) (by kernel_rfl) (by kernel_rfl) (fun _ _ _ h => h) (Or.inl ⟨by kernel_rfl, ?_⟩) hS ?_
    rotate_left
    · intro w hSw; (try dsimp only at hSw); go_simp; (try with_reducible rfl)
    try go_frame
    refine wpAnyH_take (i := 2) (oi := ⟨some 108, .fieldAddr 45 (.tmp 107) 1, 0, "training.go:134", #[⟨1, .data⟩], none⟩) (v := ?_) rfl (by kernel_rfl) (by kernel_rfl) (by kernel_rfl) (fun _ _ _ h => h) (Or.inl ⟨by kernel_rfl, ?_⟩) hS ?_
    rotate_left
    · intro w hSw; (try dsimp only at hSw); go_simp; (try with_reducible rfl)
    try go_frame
    refine wpAnyH_take (i := 3) (oi := ⟨some 109, .load 43 (.tmp 108), 43, "training.go:134", #[⟨2, .data⟩], none⟩) (v := ?_) rfl (by kernel_rfl) (by kernel_rfl) (by kernel_rfl) (fun _ _ _ h => h) (Or.inl ⟨by kernel_rfl, ?_⟩) hS ?_
    rotate_left
    · intro w hSw; (try dsimp only at hSw); go_simp; (try with_reducible rfl)
    try go_frame
    refine wpAnyH_take (i := 4) (oi := ⟨some 110, .move (.tmp 10), 3, "training.go:134", #[], none⟩) (v := ?_) rfl (by kernel_rfl) (by kernel_rfl) (by kernel_rfl) (fun _ _ _ h => h) (Or.inl ⟨by kernel_rfl, ?_⟩) hS ?_
    rotate_left
    · intro w hSw; (try dsimp only at hSw); go_simp; (try with_reducible rfl)
    try go_frame
    refine wpAnyH_take (i := 5) (oi := ⟨some 111, .move (.tmp 1), 41, "training.go:134", #[], none⟩) (v := ?_) rfl (by kernel_rfl) (by kernel_rfl) (by kernel_rfl) (fun _ _ _ h => h) (Or.inl ⟨by kernel_rfl, ?_⟩) hS ?_
    rotate_left
    · intro w hSw; (try dsimp only at hSw); go_simp; (try with_reducible rfl)
    try go_frame
    refine wpAnyH_take (i := 6) (oi := ⟨some 112, .nilCheck (.tmp 111), 0, "training.go:134", #[⟨5, .data⟩], none⟩) (v := ?_) rfl (by kernel_rfl) (by kernel_rfl) (by kernel_rfl) (fun _ _ _ h => h) (Or.inl ⟨by kernel_rfl, ?_⟩) hS ?_
    rotate_left
    · intro w hSw; (try dsimp only at hSw); go_simp; (try with_reducible rfl)
    try go_frame
    refine wpAnyH_take (i := 7) (oi := ⟨some 113, .fieldAddr 45 (.tmp 112) 1, 0, "training.go:134", #[⟨6, .data⟩], none⟩) (v := ?_) rfl (by kernel_rfl) (by kernel_rfl) (by kernel_rfl) (fun _ _ _ h => h) (Or.inl ⟨by kernel_rfl, ?_⟩) hS ?_
    rotate_left
    · intro w hSw; (try dsimp only at hSw); go_simp; (try with_reducible rfl)
    try go_frame
    refine wpAnyH_take (i := 8) (oi := ⟨some 114, .load 43 (.tmp 113), 43, "training.go:134", #[⟨7, .data⟩], none⟩) (v := ?_) rfl (by kernel_rfl) (by kernel_rfl) (by kernel_rfl) (fun _ _ _ h => h) (Or.inl ⟨by kernel_rfl, ?_⟩) hS ?_
    rotate_left
    · intro w hSw; (try dsimp only at hSw); go_simp; (try with_reducible rfl)
    try go_frame
    refine wpAnyH_take (i := 9) (oi := ⟨some 115, .move (.tmp 10), 3, "training.go:134", #[], none⟩) (v := ?_) rfl (by kernel_rfl) (by kernel_rfl) (by kernel_rfl) (fun _ _ _ h => h) (Or.inl ⟨by kernel_rfl, ?_⟩) hS ?_
    rotate_left
    · intro w hSw; (try dsimp only at hSw); go_simp; (try with_reducible rfl)
    try go_frame
    refine wpAnyH_take (i := 10) (oi := ⟨some 116, .indexAddr 43 (.tmp 114) (.tmp 115), 0, "training.go:134", #[⟨8, .data⟩, ⟨9, .data⟩], none⟩) (v := ?_) rfl (by kernel_rfl) (by kernel_rfl) (by kernel_rfl) (fun _ _ _ h => h) (Or.inl ⟨by kernel_rfl, ?_⟩) hS ?_
    rotate_left
    · intro w hSw; (try dsimp only at hSw); go_simp; (try with_reducible rfl)
    try go_frame
    refine wpAnyH_take (i := 12) (oi := ⟨some 118, .move (.tmp 14), 29, "training.go:134", #[], none⟩) (v := ?_) rfl (by kernel_rfl) (by kernel_rfl) (by kernel_rfl) (fun _ _ _ h => h) (Or.inl ⟨by kernel_rfl, ?_⟩) hS ?_
    rotate_left
    · intro w hSw; (try dsimp only at hSw); go_simp; (try with_reducible rfl)
    try go_frame
    refine wpAnyH_take (i := 13) (oi := ⟨some 119, .move (.tmp 15), 29, "training.go:134", #[], none⟩) (v := ?_) rfl (by kernel_rfl) (by kernel_rfl) (by kernel_rfl) (fun _ _ _ h => h) (Or.inl ⟨by kernel_rfl, ?_⟩) hS ?_
    rotate_left
    · intro w hSw; (try dsimp only at hSw); go_simp; (try with_reducible rfl)
    try go_frame
    refine wpAnyH_ready (rs := [11, 14]) (by kernel_rfl) (by simp) ?_
    refine AllReadyH.cons (o := ⟨some 117, .load 29 (.tmp 116), 29, "training.go:134", #[⟨10, .data⟩], none⟩) rfl (fun K hK => ?_) ?_
    · go_simp
      refine hK.out _ _ hS (fun hS => ?_)
      try go_frame
      clear hK K
      refine wpAnyH_ready (rs := [14]) (by kernel_rfl) (by simp) ?_
      refine AllReadyH.cons (o := ⟨some 120, .call { callee := .value (.func 58), args := #[.tmp 118, .tmp 119], argTypes := #[29, 29] }, 29, "training.go:134", #[⟨12, .data⟩, ⟨13, .data⟩], none⟩) rfl (fun K hK => ?_) AllReadyH.nil
      go_simp
      refine (X9.out _).mono ?_
      rintro e w15 ⟨rfl, n15, hw15⟩
      have b15 : Below w12.heap.size w12 w15 := by rw [hw15]; exact drawn2 _ _
      have P15 : Hid (w15.heap[GP]? = some (.cells (u32s lp) 29 (0, 0))) := (b15.block _ (lt_of_heap P12.out)).trans P12.out
      have V15 : Hid (w15.heap[GV]? = some (.cells (u32s (lv.set i f1)) 29 (0, 0))) := (b15.block _ (lt_of_heap V12.out)).trans V12.out
      have M15 : Hid (w15.heap[GW]? = some (.cells (u32s (lm.set i f2)) 29 (0, 0))) := (b15.block _ (lt_of_heap M12.out)).trans M12.out
      have U15 : Hid (But (fun k => k = GP ∨ k = GV ∨ k = GW) w w15) := U12.out.trans (But.below b15)
      have s15 : w15.cell? ⟨Ss, 1, none⟩ = some (.slice (some ⟨GP, 0, none⟩) n n) := (SC.out U15.out).2.1.1
      have p15 : w15.cell? ⟨GP, i, none⟩ = some (.int .u32 pv) := by rw [cell_of_block P15.out, u32s_at lp i (by rw [LP.out]; exact hlt), JP.out]
      have z15 : w15.frozen? ⟨GP, i, none⟩ = false := unfrozen_of_block P15.out _
      clear hw15 b15 hS
      go_wp2_with fail
      refine hK.out _ _ s15 (fun hS => ?_)
      try go_frame
      clear hK K
      refine wpAnyH_ready (rs := [15]) (by kernel_rfl) (by simp) ?_
      refine AllReadyH.cons (o := ⟨some 121, .call { callee := .value (.func 64), args := #[.tmp 117, .tmp 120], argTypes := #[29, 29] }, 29, "training.go:134", #[⟨11, .data⟩, ⟨14, .data⟩, ⟨14, .chain⟩], none⟩) rfl (fun K hK => ?_) AllReadyH.nil
      go_simp
      refine (X10.out _).mono ?_
      rintro e w16 ⟨rfl, hw'⟩
      subst w16
      go_wp2_with fail
      refine hK.out _ _ hS (fun hS => ?_)
      try go_frame
      clear hK K
      refine wpAnyH_take (i := 16) (oi := ⟨some 122, .indexAddr 43 (.tmp 109) (.tmp 110), 0, "training.go:134", #[⟨3, .data⟩, ⟨4, .data⟩, ⟨0, .phase⟩, ⟨1, .phase⟩, ⟨2, .phase⟩, ⟨3, .phase⟩, ⟨4, .phase⟩, ⟨5, .phase⟩, ⟨6, .phase⟩, ⟨7, .phase⟩, ⟨8, .phase⟩, ⟨9, .phase⟩, ⟨10, .phase⟩, ⟨11, .phase⟩, ⟨12, .phase⟩, ⟨13, .phase⟩, ⟨14, .phase⟩, ⟨15, .phase⟩], none⟩) (v := ?_) rfl (by kernel_rfl) (by kernel_rfl) (by kernel_rfl) (fun _ _ _ h => h) (Or.inl ⟨by kernel_rfl, ?_⟩) hS ?_
      rotate_left
      · intro w hSw; (try dsimp only at hSw); go_simp; (try with_reducible rfl)
      try go_frame
      refine wpAnyH_ready (rs := [17]) (by kernel_rfl) (by simp) ?_
      refine AllReadyH.cons (o := ⟨none, .store 29 (.tmp 122) (.tmp 121), 0, "training.go:134", #[⟨16, .data⟩, ⟨15, .data⟩, ⟨15, .chain⟩, ⟨0, .phase⟩, ⟨1, .phase⟩, ⟨2, .phase⟩, ⟨3, .phase⟩, ⟨4, .phase⟩, ⟨5, .phase⟩, ⟨6, .phase⟩, ⟨7, .phase⟩, ⟨8, .phase⟩, ⟨9, .phase⟩, ⟨10, .phase⟩, ⟨11, .phase⟩, ⟨12, .phase⟩, ⟨13, .phase⟩, ⟨14, .phase⟩, ⟨15, .phase⟩], none⟩) rfl (fun K hK => ?_) AllReadyH.nil
      go_simp
      refine hK.out _ _ ((SC.out (U15.out.trans (But.set w15 GP i _ (Or.inl rfl)))).2.1.1) (fun hS => ?_)
      try go_frame
      clear hK K
      refine wpAnyH_done (by kernel_rfl) ?_ _
      clear hS s15 p15 z15
      go_wp2
      go_roundw
      case rel =>
       refine ⟨i + 1, by omega, by go_num, lp.set i f3, lv.set i f1, lm.set i f2, ?_, ?_, ?_, fun k hk => ?_, fun k hk => ?_, ?_, ?_, ?_, ?_⟩
       · show _ = _; rw [List.length_set]; exact LP.out
       · show _ = _; rw [List.length_set]; exact LV.out
       · show _ = _; rw [List.length_set]; exact LM.out
       · rw [getD_set, getD_set, getD_set]
         by_cases e : i = k
         · rw [if_pos ⟨e, by rw [LP.out]; exact hlt⟩, if_pos ⟨e, by rw [LV.out]; exact hlt⟩, if_pos ⟨e, by rw [LM.out]; exact hlt⟩, F1.out, F2.out, F3.out, e]; exact ⟨rfl, rfl, rfl⟩
         · rw [if_neg (fun h => e h.1), if_neg (fun h => e h.1), if_neg (fun h => e h.1)]; exact LI.out k (by omega)
       · rw [getD_set, getD_set, getD_set, if_neg (fun h => by omega), if_neg (fun h => by omega), if_neg (fun h => by omega)]; exact LJ.out k (by omega)
       · show _ = _; rw [heap_set w15 GP i _ (u32s lp) 29 (0, 0) P15.out, u32s_set]
       · show _ = _; rw [heap_set_ne w15 GP i GV _ (Ne.symm PVn.out)]; exact V15.out
       · show _ = _; rw [heap_set_ne w15 GP i GW _ (Ne.symm PWn.out)]; exact M15.out
       · exact U15.out.trans (But.set w15 GP i _ (Or.inl rfl))
      case measure => simp [intOf]; omega
    refine AllReadyH.cons (o := ⟨some 120, .call { callee := .value (.func 58), args := #[.tmp 118, .tmp 119], argTypes := #[29, 29] }, 29, "training.go:134", #[⟨12, .data⟩, ⟨13, .data⟩], none⟩) rfl (fun K hK => ?_) AllReadyH.nil
    go_simp
    refine (X9.out _).mono ?_
    rintro e w15 ⟨rfl, n15, hw15⟩
    have b15 : Below w12.heap.size w12 w15 := by rw [hw15]; exact drawn2 _ _
    have P15 : Hid (w15.heap[GP]? = some (.cells (u32s lp) 29 (0, 0))) := (b15.block _ (lt_of_heap P12.out)).trans P12.out
    have V15 : Hid (w15.heap[GV]? = some (.cells (u32s (lv.set i f1)) 29 (0, 0))) := (b15.block _ (lt_of_heap V12.out)).trans V12.out
    have M15 : Hid (w15.heap[GW]? = some (.cells (u32s (lm.set i f2)) 29 (0, 0))) := (b15.block _ (lt_of_heap M12.out)).trans M12.out
    have U15 : Hid (But (fun k => k = GP ∨ k = GV ∨ k = GW) w w15) := U12.out.trans (But.below b15)
    have s15 : w15.cell? ⟨Ss, 1, none⟩ = some (.slice (some ⟨GP, 0, none⟩) n n) := (SC.out U15.out).2.1.1
    have p15 : w15.cell? ⟨GP, i, none⟩ = some (.int .u32 pv) := by rw [cell_of_block P15.out, u32s_at lp i (by rw [LP.out]; exact hlt), JP.out]
    have z15 : w15.frozen? ⟨GP, i, none⟩ = false := unfrozen_of_block P15.out _
    clear hw15 b15 hS
    go_wp2_with fail
    refine hK.out _ _ s15 (fun hS => ?_)
    try go_frame
    clear hK K
    refine wpAnyH_ready (rs := [11]) (by kernel_rfl) (by simp) ?_
    refine AllReadyH.cons (o := ⟨some 117, .load 29 (.tmp 116), 29, "training.go:134", #[⟨10, .data⟩], none⟩) rfl (fun K hK => ?_) AllReadyH.nil
    go_simp
    refine hK.out _ _ hS (fun hS => ?_)
    try go_frame
    clear hK K
    refine wpAnyH_ready (rs := [15]) (by kernel_rfl) (by simp) ?_
    refine AllReadyH.cons (o := ⟨some 121, .call { callee := .value (.func 64), args := #[.tmp 117, .tmp 120], argTypes := #[29, 29] }, 29, "training.go:134", #[⟨11, .data⟩, ⟨14, .data⟩, ⟨14, .chain⟩], none⟩) rfl (fun K hK => ?_) AllReadyH.nil
    go_simp
    refine (X10.out _).mono ?_
    rintro e w16 ⟨rfl, hw'⟩
    subst w16
    go_wp2_with fail
    refine hK.out _ _ hS (fun hS => ?_)
    try go_frame
    clear hK K
    refine wpAnyH_take (i := 16) (oi := ⟨some 122, .indexAddr 43 (.tmp 109) (.tmp 110), 0, "training.go:134", #[⟨3, .data⟩, ⟨4, .data⟩, ⟨0, .phase⟩, ⟨1, .phase⟩, ⟨2, .phase⟩, ⟨3, .phase⟩, ⟨4, .phase⟩, ⟨5, .phase⟩, ⟨6, .phase⟩, ⟨7, .phase⟩, ⟨8, .phase⟩, ⟨9, .phase⟩, ⟨10, .phase⟩, ⟨11, .phase⟩, ⟨12, .phase⟩, ⟨13, .phase⟩, ⟨14, .phase⟩, ⟨15, .phase⟩], none⟩) (v := ?_) rfl (by kernel_rfl) (by kernel_rfl) (by kernel_rfl) (fun _ _ _ h => h) (Or.inl ⟨by kernel_rfl, ?_⟩) hS ?_
    rotate_left
    · intro w hSw; (try dsimp only at hSw); go_simp; (try with_reducible rfl)
    try go_frame
    refine wpAnyH_ready (rs := [17]) (by kernel_rfl) (by simp) ?_
    refine AllReadyH.cons (o := ⟨none, .store 29 (.tmp 122) (.tmp 121), 0, "training.go:134", #[⟨16, .data⟩, ⟨15, .data⟩, ⟨15, .chain⟩, ⟨0, .phase⟩, ⟨1, .phase⟩, ⟨2, .phase⟩, ⟨3, .phase⟩, ⟨4, .phase⟩, ⟨5, .phase⟩, ⟨6, .phase⟩, ⟨7, .phase⟩, ⟨8, .phase⟩, ⟨9, .phase⟩, ⟨10, .phase⟩, ⟨11, .phase⟩, ⟨12, .phase⟩, ⟨13, .phase⟩, ⟨14, .phase⟩, ⟨15, .phase⟩], none⟩) rfl (fun K hK => ?_) AllReadyH.nil
    go_simp
    refine hK.out _ _ ((SC.out (U15.out.trans (But.set w15 GP i _ (Or.inl rfl)))).2.1.1) (fun hS => ?_)
    try go_frame
    clear hK K
    refine wpAnyH_done (by kernel_rfl) ?_ _
    clear hS s15 p15 z15
    go_wp2
    go_roundw
    case rel =>
     refine ⟨i + 1, by omega, by go_num, lp.set i f3, lv.set i f1, lm.set i f2, ?_, ?_, ?_, fun k hk => ?_, fun k hk => ?_, ?_, ?_, ?_, ?_⟩
     · show _ = _; rw [List.length_set]; exact LP.out
     · show _ = _; rw [List.length_set]; exact LV.out
     · show _ = _; rw [List.length_set]; exact LM.out
     · rw [getD_set, getD_set, getD_set]
       by_cases e : i = k
       · rw [if_pos ⟨e, by rw [LP.out]; exact hlt⟩, if_pos ⟨e, by rw [LV.out]; exact hlt⟩, if_pos ⟨e, by rw [LM.out]; exact hlt⟩, F1.out, F2.out, F3.out, e]; exact ⟨rfl, rfl, rfl⟩
       · rw [if_neg (fun h => e h.1), if_neg (fun h => e h.1), if_neg (fun h => e h.1)]; exact LI.out k (by omega)
     · rw [getD_set, getD_set, getD_set, if_neg (fun h => by omega), if_neg (fun h => by omega), if_neg (fun h => by omega)]; exact LJ.out k (by omega)
     · show _ = _; rw [heap_set w15 GP i _ (u32s lp) 29 (0, 0) P15.out, u32s_set]
     · show _ = _; rw [heap_set_ne w15 GP i GV _ (Ne.symm PVn.out)]; exact V15.out
     · show _ = _; rw [heap_set_ne w15 GP i GW _ (Ne.symm PWn.out)]; exact M15.out
     · exact U15.out.trans (But.set w15 GP i _ (Or.inl rfl))
    case measure => simp [intOf]; omega
  · have hie : n = i := by omega
    have RP : Hid (wr.heap[GP]? = some (.cells (u32s ((List.range n).map FP)) 29 (0, 0))) := by
     show _ = _; rw [HP.out, list_of lp n FP LP.out fun k hk => (LI.out k (by omega)).1]
    have RV : Hid (wr.heap[GV]? = some (.cells (u32s ((List.range n).map FV)) 29 (0, 0))) := by
     show _ = _; rw [HV.out, list_of lv n FV LV.out fun k hk => (LI.out k (by omega)).2.1]
    have RW : Hid (wr.heap[GW]? = some (.cells (u32s ((List.range n).map FW)) 29 (0, 0))) := by
     show _ = _; rw [HM.out, list_of lm n FW LM.out fun k hk => (LI.out k (by omega)).2.2]
    clear hie
    go_wp2
    go_end0
    exact ⟨rfl, RP.out, RV.out, RW.out, UW.out⟩
end Go.Proofs.YtoihkljlekknkaaGreat
