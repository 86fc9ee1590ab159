/-
  The rate of a step, as the program makes it. Conditions: the configuration's patterns are some (0 to 2^32 - 1), the step is an int.
-/
import Derived.Test.YtoihkljlekknkaaGreatCk4
import Derived.Test.YtoihkljlekknkaaGreatRefPoly
import Derived.Test.YtoihkljlekknkaaGreatInts
import Derived.Deep.RegionHeld3
import Derived.Deep.RegionWith
namespace Go.Proofs.YtoihkljlekknkaaGreat
open Go.RowKit
open Go.Joins (block_setCell cell_of_block unfrozen_of_block)
set_option linter.unusedVariables false
set_option linter.unusedSimpArgs false
/-- a rate that was halved so many times -/
def HLV (r : Int) : Nat → Int
 | 0 => r
 | n + 1 => MUL (HLV r n) 1056964608
theorem HLV_succ (r : Int) (n : Nat) : HLV r (n + 1) = MUL (HLV r n) 1056964608 := rfl
theorem HLV_bd (r : Int) (n : Nat) (h0 : 0 ≤ r) (h1 : r < 4294967296) : 0 ≤ HLV r n ∧ HLV r n < 4294967296 := by
 cases n with
 | zero => exact ⟨h0, h1⟩
 | succ n => exact MUL_bd _ _
def capOne (f : Int) : Int := if LESS 1065353216 f = true then 1065353216 else f
def WAV (c : Cf) (step : Int) : Int :=
 if step < c.warm then MUL c.rate (DIV (FROMI (step + 1)) (FROMI c.warm))
 else MUL (MUL c.rate 1056964608) (ADD 1065353216 (COS (capOne (DIV (FROMI (step - c.warm)) (FROMI (max (c.steps - c.warm) 1))))))
def PLN (c : Cf) (step : Int) : Int := if c.plan = 1 then HLV c.rate (step / c.span).toNat else if c.plan = 2 then WAV c step else c.rate
def RATE (c : Cf) (step : Int) : Int := if ALW c = true ∧ inB step 0 400 = true then PLN c step else 0
set_option maxHeartbeats 1000000 in
set_option maxRecDepth 100000 in
theorem halved_any (r n : Int) (w : World) (h0 : 0 ≤ r) (h1 : r < 4294967296) (hn : n ≤ 9223372036854775807) :
 Calls Tryz.prog 103 #[.int .u32 r, .int .i64 n] w fun e w' => e = .returned (.int .u32 (HLV r n.toNat)) ∧ w' = w := by
 go_enter Tryz.func103, Tryz.ntmps103
 go_wp2
 go_loop [0, 6] (fun rv iv => ∃ k : Nat, iv = .int .i64 k ∧ k ≤ n.toNat ∧ rv = .int .u32 (HLV r k)) (fun _ iv => n.toNat - (intOf iv).toNat)
 case atStart => exact ⟨0, rfl, by omega, rfl⟩
 case round =>
  obtain ⟨k, rfl, hk, rfl⟩ := hrel
  have hb := HLV_bd r k h0 h1
  have HS : Hid _ := HLV_succ r k
  obtain ⟨x, hx⟩ : ∃ x, x = HLV r k := ⟨_, rfl⟩
  rw [← hx] at hb HS ⊢
  obtain ⟨hb0, hb1⟩ := hb
  by_cases hlt : (k : Int) < n
  · clear hx
    go_wp2_with (first | (go_at_call 61; refine (mul_any _ _ _ hb0 hb1 (by omega) (by omega)).mono ?_; rintro e w' ⟨rfl, hw'⟩; subst w'))
    go_round
    case rel => exact ⟨k + 1, by go_num, by omega, by rw [HS.out]⟩
    case measure => simp [intOf]; omega
  · have e : k = n.toNat ∨ n < 0 := by omega
    have R : Hid (x = HLV r n.toNat) := by
     show _ = _
     rw [hx]
     rcases e with e | e
     · rw [e]
     · rw [show n.toNat = k by omega]
    clear hx e HS
    go_wp2
    go_ret
    exact ⟨ret_int R.out, rfl⟩
theorem below_dn {B : Nat} {a w : World} (h : Below B a w) (n : Nat) : Below B a (w.drewN n) := h.trans (Go.Joins.below_draws _ _ _)
theorem keepD {w a : World} {b : Nat} {x y z : Value} (h : a.cell? ⟨b, 10, none⟩ = some x ∧ a.cell? ⟨b, 13, none⟩ = some y ∧ a.cell? ⟨b, 15, none⟩ = some z ∧ Below w.heap.size w a) (n : Nat) :
 (a.drewN n).cell? ⟨b, 10, none⟩ = some x ∧ (a.drewN n).cell? ⟨b, 13, none⟩ = some y ∧ (a.drewN n).cell? ⟨b, 15, none⟩ = some z ∧ Below w.heap.size w (a.drewN n) := ⟨h.1, h.2.1, h.2.2.1, below_dn h.2.2.2 n⟩
set_option maxHeartbeats 4000000 in
set_option maxRecDepth 100000 in
theorem waved_any (c : Cf) (step : Int) (w : World) (h2 : c.ok2) (hr : -1 ≤ step ∧ step ≤ 400) (hw : 0 ≤ c.warm ∧ c.warm ≤ 200) (hs : 0 ≤ c.steps ∧ c.steps ≤ 200) :
 Calls Tryz.prog 104 #[.agg (pcs c), .int .i64 step] w fun e w' => e = .returned (.int .u32 (WAV c step)) ∧ Below w.heap.size w w' := by
 obtain ⟨X, hX⟩ : ∃ X, X = pcs c := ⟨_, rfl⟩
 rw [← hX]
 obtain ⟨r0, r1⟩ := h2.rate
 obtain ⟨W, hW, b0, bel, hws⟩ := one_block w X 31
 have c10 : W.cell? ⟨w.heap.size, 10, none⟩ = some (.int .i64 c.steps) := (cell_of_block b0 10).trans (by rw [hX]; rfl)
 have c13 : W.cell? ⟨w.heap.size, 13, none⟩ = some (.int .i64 c.warm) := (cell_of_block b0 13).trans (by rw [hX]; rfl)
 have c15 : W.cell? ⟨w.heap.size, 15, none⟩ = some (.int .u32 c.rate) := (cell_of_block b0 15).trans (by rw [hX]; rfl)
 have BE : Hid (Below w.heap.size w W) := bel
 have HW : Hid _ := hW
 have E : Hid (WAV c step = if step < c.warm then MUL c.rate (DIV (FROMI (step + 1)) (FROMI c.warm)) else MUL (MUL c.rate 1056964608) (ADD 1065353216 (COS (capOne (DIV (FROMI (step - c.warm)) (FROMI (max (c.steps - c.warm) 1))))))) := rfl
 obtain ⟨wm, hwm⟩ : ∃ x, x = c.warm := ⟨_, rfl⟩
 obtain ⟨st, hst⟩ : ∃ x, x = c.steps := ⟨_, rfl⟩
 obtain ⟨rt, hrt⟩ : ∃ x, x = c.rate := ⟨_, rfl⟩
 rw [← hwm] at hw c13 E
 rw [← hst] at hs c10 E
 rw [← hrt] at r0 r1 c15 E
 clear b0 bel hW hX hws hwm hst hrt
 by_cases hlt : step < wm
 · have f1 := FROMI_bd (step + 1)
   have f2 := FROMI_bd wm
   have R : Hid (WAV c step = MUL rt (DIV (FROMI (step + 1)) (FROMI wm))) := by show _ = _; rw [E.out, if_pos hlt]
   have d1 := DIV_bd (FROMI (step + 1)) (FROMI wm)
   have z1 : IntKind.i64.wrap (step + 1) = step + 1 := by rw [IntKind.wrap_i64]; omega
   clear E
   go_enter Tryz.func104, Tryz.ntmps104
   go_upto_region 1 with fail
   rw [HW.out]
   go_wp2_with fail
   go_quiet (first
    | (go_at_call 59; exact Calls.quiet_of_same (fromInt_any _ _ (by omega) (by omega)))
    | (go_at_call 58; exact Calls.quiet_of (div_any _ _ _ f1.1 f1.2 f2.1 f2.2))
    | (go_at_call 61; exact Calls.quiet_of_same (mul_any _ _ _ r0 r1 d1.1 d1.2)))
   go_wp2
   go_ret
   exact ⟨ret_int R.out.symm, below_dn BE.out _⟩
 · obtain ⟨mx, hmx⟩ : ∃ m, m = max (st - wm) 1 := ⟨_, rfl⟩
   have f1 := FROMI_bd (step - wm)
   have f2 := FROMI_bd mx
   have mxb : 1 ≤ mx ∧ mx ≤ 200 := by omega
   obtain ⟨fq, hfq⟩ : ∃ f, f = DIV (FROMI (step - wm)) (FROMI mx) := ⟨_, rfl⟩
   have d1 := DIV_bd (FROMI (step - wm)) (FROMI mx)
   rw [← hfq] at d1
   have R : Hid (WAV c step = MUL (MUL rt 1056964608) (ADD 1065353216 (COS (capOne fq)))) := by show _ = _; rw [E.out, if_neg hlt, ← hmx, ← hfq]
   have FQ := hfq.symm
   have z1 : IntKind.i64.wrap (step - wm) = step - wm := by rw [IntKind.wrap_i64]; omega
   have z2 : IntKind.i64.wrap (st - wm) = st - wm := by rw [IntKind.wrap_i64]; omega
   have MX := hmx.symm
   clear E hfq hmx
   have m1 := MUL_bd rt 1056964608
   have cb := COS_bd (capOne fq)
   have ab := ADD_bd 1065353216 (COS (capOne fq)) (by omega) (by omega) cb.1 cb.2
   have ofq : 0 ≤ capOne fq ∧ capOne fq < 4294967296 := by unfold capOne; split <;> omega
   have hcf : capOne fq = if LESS 1065353216 fq = true then 1065353216 else fq := rfl
   have L1 : Hid (∀ w, Calls Tryz.prog 60 #[.int .u32 1065353216, .int .u32 fq] w fun e w' => e = .returned (.bool (LESS 1065353216 fq)) ∧ w' = w) := fun w => less_any 1065353216 fq w (by omega) (by omega) d1.1 d1.2
   obtain ⟨g, hg⟩ : ∃ g, g = capOne fq := ⟨_, rfl⟩
   rw [← hg] at hcf cb ab R ofq
   clear hg
   obtain ⟨co, hco⟩ : ∃ x, COS g = x := ⟨_, rfl⟩
   have C1 : Hid (∀ w, Calls Tryz.prog 121 #[.int .u32 g] w fun e w' => e = .returned (.int .u32 co) ∧ Below w.heap.size w w') := fun w => by rw [← hco]; exact cos_any g w ofq.1 ofq.2
   rw [hco] at cb ab R
   obtain ⟨ad, had⟩ : ∃ x, ADD 1065353216 co = x := ⟨_, rfl⟩
   have A1 : Hid (∀ w, Calls Tryz.prog 56 #[.int .u32 1065353216, .int .u32 co] w fun e w' => e = .returned (.int .u32 ad) ∧ w' = w) := fun w => by rw [← had]; exact add_any 1065353216 co w (by omega) (by omega) cb.1 cb.2
   rw [had] at ab R
   obtain ⟨m, hmm⟩ : ∃ x, MUL rt 1056964608 = x := ⟨_, rfl⟩
   have M1 : Hid (∀ w, Calls Tryz.prog 61 #[.int .u32 rt, .int .u32 1056964608] w fun e w' => e = .returned (.int .u32 m) ∧ w' = w) := fun w => by rw [← hmm]; exact mul_any rt 1056964608 w r0 r1 (by omega) (by omega)
   rw [hmm] at m1 R
   obtain ⟨u, hu⟩ : ∃ x, MUL m ad = x := ⟨_, rfl⟩
   have M2 : Hid (∀ w, Calls Tryz.prog 61 #[.int .u32 m, .int .u32 ad] w fun e w' => e = .returned (.int .u32 u) ∧ w' = w) := fun w => by rw [← hu]; exact mul_any m ad w m1.1 m1.2 ab.1 ab.2
   rw [hu] at R
   clear hco had hmm hu m1 cb ab ofq
   cases hl : LESS 1065353216 fq
   · rw [hl] at hcf L1
     have cf : g = fq := by simpa using hcf
     subst cf
     clear hcf hl
     by_cases hm : st - wm < 1
     · have e1 : mx = 1 := by omega
       subst e1
       clear MX
       go_enter Tryz.func104, Tryz.ntmps104
       go_upto_region 1 with fail
       rw [HW.out]
       go_wp2_with fail
       have S0 : W.drew.cell? ⟨w.heap.size, 10, none⟩ = some (.int .i64 st) ∧ W.drew.cell? ⟨w.heap.size, 13, none⟩ = some (.int .i64 wm) ∧ W.drew.cell? ⟨w.heap.size, 15, none⟩ = some (.int .u32 rt) ∧ Below w.heap.size w W.drew := ⟨c10, c13, c15, BE.out.drew⟩
       go_region_held3 (fun w' => w'.cell? ⟨w.heap.size, 10, none⟩ = some (.int .i64 st) ∧ w'.cell? ⟨w.heap.size, 13, none⟩ = some (.int .i64 wm) ∧ w'.cell? ⟨w.heap.size, 15, none⟩ = some (.int .u32 rt) ∧ Below w.heap.size w w') (exact ⟨c10, c13, c15, below_dn BE.out _⟩) (first
        | (go_at_call 59; refine (fromInt_any _ _ (by omega) (by omega)).mono ?_; rintro e w' ⟨rfl, hw'⟩; subst w')
        | (go_at_call 58; refine (div_any _ _ _ f1.1 f1.2 f2.1 f2.2).mono ?_; rintro e w' ⟨rfl, nd, hw'⟩; subst w'; rw [FQ]))
       all_goals
        go_wp2_with (first
         | (go_at_call 60; refine (L1.out _).mono ?_; rintro e w' ⟨rfl, hw'⟩; subst w')
         | (go_at_call 121; refine (C1.out _).mono ?_; rintro e w5 ⟨rfl, hb⟩; have HB5 : Hid _ := hb; clear hb)
         | (go_at_call 56; refine (A1.out _).mono ?_; rintro e w' ⟨rfl, hw'⟩; subst w')
         | (go_at_call_of 61 (Value.int IntKind.u32 rt); refine (M1.out _).mono ?_; rintro e w' ⟨rfl, hw'⟩; subst w')
         | (go_at_call_of 61 (Value.int IntKind.u32 m); refine (M2.out _).mono ?_; rintro e w' ⟨rfl, hw'⟩; subst w'))
        go_ret
        exact ⟨ret_int R.out.symm, (below_dn BE.out _).trans (HB5.out.mono (below_dn BE.out _).size)⟩
     · have e1 : mx = st - wm := by omega
       subst e1
       clear MX
       go_enter Tryz.func104, Tryz.ntmps104
       go_upto_region 1 with fail
       rw [HW.out]
       go_wp2_with fail
       have S0 : W.drew.cell? ⟨w.heap.size, 10, none⟩ = some (.int .i64 st) ∧ W.drew.cell? ⟨w.heap.size, 13, none⟩ = some (.int .i64 wm) ∧ W.drew.cell? ⟨w.heap.size, 15, none⟩ = some (.int .u32 rt) ∧ Below w.heap.size w W.drew := ⟨c10, c13, c15, BE.out.drew⟩
       go_region_held3 (fun w' => w'.cell? ⟨w.heap.size, 10, none⟩ = some (.int .i64 st) ∧ w'.cell? ⟨w.heap.size, 13, none⟩ = some (.int .i64 wm) ∧ w'.cell? ⟨w.heap.size, 15, none⟩ = some (.int .u32 rt) ∧ Below w.heap.size w w') (exact ⟨c10, c13, c15, below_dn BE.out _⟩) (first
        | (go_at_call 59; refine (fromInt_any _ _ (by omega) (by omega)).mono ?_; rintro e w' ⟨rfl, hw'⟩; subst w')
        | (go_at_call 58; refine (div_any _ _ _ f1.1 f1.2 f2.1 f2.2).mono ?_; rintro e w' ⟨rfl, nd, hw'⟩; subst w'; rw [FQ]))
       all_goals
        go_wp2_with (first
         | (go_at_call 60; refine (L1.out _).mono ?_; rintro e w' ⟨rfl, hw'⟩; subst w')
         | (go_at_call 121; refine (C1.out _).mono ?_; rintro e w5 ⟨rfl, hb⟩; have HB5 : Hid _ := hb; clear hb)
         | (go_at_call 56; refine (A1.out _).mono ?_; rintro e w' ⟨rfl, hw'⟩; subst w')
         | (go_at_call_of 61 (Value.int IntKind.u32 rt); refine (M1.out _).mono ?_; rintro e w' ⟨rfl, hw'⟩; subst w')
         | (go_at_call_of 61 (Value.int IntKind.u32 m); refine (M2.out _).mono ?_; rintro e w' ⟨rfl, hw'⟩; subst w'))
        go_ret
        exact ⟨ret_int R.out.symm, (below_dn BE.out _).trans (HB5.out.mono (below_dn BE.out _).size)⟩
   · rw [hl] at hcf L1
     have cf : g = 1065353216 := by simpa using hcf
     subst cf
     clear hcf hl
     by_cases hm : st - wm < 1
     · have e1 : mx = 1 := by omega
       subst e1
       clear MX
       go_enter Tryz.func104, Tryz.ntmps104
       go_upto_region 1 with fail
       rw [HW.out]
       go_wp2_with fail
       have S0 : W.drew.cell? ⟨w.heap.size, 10, none⟩ = some (.int .i64 st) ∧ W.drew.cell? ⟨w.heap.size, 13, none⟩ = some (.int .i64 wm) ∧ W.drew.cell? ⟨w.heap.size, 15, none⟩ = some (.int .u32 rt) ∧ Below w.heap.size w W.drew := ⟨c10, c13, c15, BE.out.drew⟩
       go_region_held3 (fun w' => w'.cell? ⟨w.heap.size, 10, none⟩ = some (.int .i64 st) ∧ w'.cell? ⟨w.heap.size, 13, none⟩ = some (.int .i64 wm) ∧ w'.cell? ⟨w.heap.size, 15, none⟩ = some (.int .u32 rt) ∧ Below w.heap.size w w') (exact ⟨c10, c13, c15, below_dn BE.out _⟩) (first
        | (go_at_call 59; refine (fromInt_any _ _ (by omega) (by omega)).mono ?_; rintro e w' ⟨rfl, hw'⟩; subst w')
        | (go_at_call 58; refine (div_any _ _ _ f1.1 f1.2 f2.1 f2.2).mono ?_; rintro e w' ⟨rfl, nd, hw'⟩; subst w'; rw [FQ]))
       all_goals
        go_wp2_with (first
         | (go_at_call 60; refine (L1.out _).mono ?_; rintro e w' ⟨rfl, hw'⟩; subst w')
         | (go_at_call 121; refine (C1.out _).mono ?_; rintro e w5 ⟨rfl, hb⟩; have HB5 : Hid _ := hb; clear hb)
         | (go_at_call 56; refine (A1.out _).mono ?_; rintro e w' ⟨rfl, hw'⟩; subst w')
         | (go_at_call_of 61 (Value.int IntKind.u32 rt); refine (M1.out _).mono ?_; rintro e w' ⟨rfl, hw'⟩; subst w')
         | (go_at_call_of 61 (Value.int IntKind.u32 m); refine (M2.out _).mono ?_; rintro e w' ⟨rfl, hw'⟩; subst w'))
        go_ret
        exact ⟨ret_int R.out.symm, (below_dn BE.out _).trans (HB5.out.mono (below_dn BE.out _).size)⟩
     · have e1 : mx = st - wm := by omega
       subst e1
       clear MX
       go_enter Tryz.func104, Tryz.ntmps104
       go_upto_region 1 with fail
       rw [HW.out]
       go_wp2_with fail
       have S0 : W.drew.cell? ⟨w.heap.size, 10, none⟩ = some (.int .i64 st) ∧ W.drew.cell? ⟨w.heap.size, 13, none⟩ = some (.int .i64 wm) ∧ W.drew.cell? ⟨w.heap.size, 15, none⟩ = some (.int .u32 rt) ∧ Below w.heap.size w W.drew := ⟨c10, c13, c15, BE.out.drew⟩
       go_region_held3 (fun w' => w'.cell? ⟨w.heap.size, 10, none⟩ = some (.int .i64 st) ∧ w'.cell? ⟨w.heap.size, 13, none⟩ = some (.int .i64 wm) ∧ w'.cell? ⟨w.heap.size, 15, none⟩ = some (.int .u32 rt) ∧ Below w.heap.size w w') (exact ⟨c10, c13, c15, below_dn BE.out _⟩) (first
        | (go_at_call 59; refine (fromInt_any _ _ (by omega) (by omega)).mono ?_; rintro e w' ⟨rfl, hw'⟩; subst w')
        | (go_at_call 58; refine (div_any _ _ _ f1.1 f1.2 f2.1 f2.2).mono ?_; rintro e w' ⟨rfl, nd, hw'⟩; subst w'; rw [FQ]))
       all_goals
        go_wp2_with (first
         | (go_at_call 60; refine (L1.out _).mono ?_; rintro e w' ⟨rfl, hw'⟩; subst w')
         | (go_at_call 121; refine (C1.out _).mono ?_; rintro e w5 ⟨rfl, hb⟩; have HB5 : Hid _ := hb; clear hb)
         | (go_at_call 56; refine (A1.out _).mono ?_; rintro e w' ⟨rfl, hw'⟩; subst w')
         | (go_at_call_of 61 (Value.int IntKind.u32 rt); refine (M1.out _).mono ?_; rintro e w' ⟨rfl, hw'⟩; subst w')
         | (go_at_call_of 61 (Value.int IntKind.u32 m); refine (M2.out _).mono ?_; rintro e w' ⟨rfl, hw'⟩; subst w'))
        go_ret
        exact ⟨ret_int R.out.symm, (below_dn BE.out _).trans (HB5.out.mono (below_dn BE.out _).size)⟩
end Go.Proofs.YtoihkljlekknkaaGreat
/-
  RateAt, as the program makes it. Conditions: the configuration's patterns are some (0 to 2^32 - 1), the step is an int.
-/
namespace Go.Proofs.YtoihkljlekknkaaGreat
open Go.RowKit
open Go.Joins (block_setCell cell_of_block unfrozen_of_block)
set_option linter.unusedVariables false
set_option linter.unusedSimpArgs false
theorem ALW_more {c : Cf} (h : ALW c = true) : (0 ≤ c.plan ∧ c.plan ≤ 2) ∧ (0 ≤ c.steps ∧ c.steps ≤ 200) ∧ (1 ≤ c.span ∧ c.span ≤ 200) ∧ (0 ≤ c.warm ∧ c.warm ≤ c.steps) := by
 unfold ALW at h
 simp only [Bool.and_eq_true] at h
 exact ⟨inB_iff.1 h.1.1.1.1.1.2, inB_iff.1 h.1.1.1.2, inB_iff.1 h.1.2, inB_iff.1 h.2⟩
set_option maxHeartbeats 2000000 in
set_option maxRecDepth 100000 in
theorem planned_any (c : Cf) (step : Int) (w : World) (h : ALW c = true) (h2 : c.ok2) (hs : 0 ≤ step ∧ step ≤ 400) :
 Calls Tryz.prog 63 #[.agg (pcs c), .int .i64 step] w fun e w' => e = .returned (.int .u32 (PLN c step)) ∧ Below w.heap.size w w' := by
 obtain ⟨hp, hst, hsp, hwm⟩ := ALW_more h
 obtain ⟨r0, r1⟩ := h2.rate
 obtain ⟨X, hX⟩ : ∃ X, X = pcs c := ⟨_, rfl⟩
 have WV : Hid (∀ w, Calls Tryz.prog 104 #[.agg X, .int .i64 step] w fun e w' => e = .returned (.int .u32 (WAV c step)) ∧ Below w.heap.size w w') := fun w => by rw [hX]; exact waved_any c step w h2 (by omega) (by omega) hst
 rw [← hX]
 obtain ⟨W, hW, b0, bel, hws⟩ := one_block w X 31
 have c8 : W.cell? ⟨w.heap.size, 8, none⟩ = some (.int .i64 c.plan) := (cell_of_block b0 8).trans (by rw [hX]; rfl)
 have c12 : W.cell? ⟨w.heap.size, 12, none⟩ = some (.int .i64 c.span) := (cell_of_block b0 12).trans (by rw [hX]; rfl)
 have c15 : W.cell? ⟨w.heap.size, 15, none⟩ = some (.int .u32 c.rate) := (cell_of_block b0 15).trans (by rw [hX]; rfl)
 have B0 : Hid _ := b0
 have X1 : Hid ((Tryz.prog.info? 31).map (·.size) = some X.size) := by show _ = _; rw [hX]; kernel_rfl
 have WS : Hid (w.heap.size ≤ W.heap.size) := by show _ ≤ _; omega
 have BE : Hid (Below w.heap.size w W) := bel
 have HW : Hid _ := hW
 have E : Hid (PLN c step = if c.plan = 1 then HLV c.rate (step / c.span).toNat else if c.plan = 2 then WAV c step else c.rate) := rfl
 obtain ⟨pl, hpl⟩ : ∃ x, x = c.plan := ⟨_, rfl⟩
 obtain ⟨sp, hspp⟩ : ∃ x, x = c.span := ⟨_, rfl⟩
 obtain ⟨rt, hrt⟩ : ∃ x, x = c.rate := ⟨_, rfl⟩
 rw [← hpl] at hp c8 E
 rw [← hspp] at hsp c12 E
 rw [← hrt] at r0 r1 c15 E
 clear b0 bel hW hX hws hpl hspp hrt
 rcases (show pl = 1 ∨ pl = 2 ∨ pl = 0 by omega) with rfl | rfl | rfl
 · obtain ⟨q, hq⟩ : ∃ q, q = step / sp := ⟨_, rfl⟩
   have q0 : 0 ≤ q := by rw [hq]; exact Int.ediv_nonneg (by omega) (by omega)
   have q1 : q ≤ step := by rw [hq]; exact Int.ediv_le_self _ (by omega)
   have R : Hid (PLN c step = HLV rt q.toNat) := by show _ = _; rw [E.out, if_pos rfl, hq]
   have T1 : step.tdiv sp = q := by rw [hq]; exact Int.tdiv_eq_ediv_of_nonneg hs.1
   have T2 := hq.symm
   have z : (sp == 0) = false := by simp; omega
   have z1 : IntKind.i64.wrap q = q := by rw [IntKind.wrap_i64]; omega
   clear E hq
   go_enter Tryz.func63, Tryz.ntmps63
   go_upto_region 1 with fail
   rw [HW.out]
   go_wp2_with fail
   go_quiet (first | (go_at_call 103; exact Calls.quiet_of_same (halved_any rt q _ r0 r1 (by omega))))
   go_wp2
   go_ret
   exact ⟨ret_int R.out.symm, below_dn BE.out _⟩
 · have R : Hid (PLN c step = WAV c step) := by show _ = _; rw [E.out]; rfl
   obtain ⟨v, hv⟩ : ∃ v, v = WAV c step := ⟨_, rfl⟩
   rw [← hv] at R WV
   clear E hv
   go_enter Tryz.func63, Tryz.ntmps63
   go_upto_region 1 with fail
   rw [HW.out]
   go_wp2_with (first
    | (go_at_call 104; refine (WV.out _).mono ?_; rintro e w1 ⟨rfl, hb⟩; have HB : Hid _ := hb; clear hb)
    | (refine wpList_load_row rfl 31 _ rfl w.heap.size rfl 31 X (0, 0) _ B0.out Tryz.underlying31 rfl X1.out ?_))
   go_ret
   exact ⟨ret_int R.out.symm, BE.out.trans (HB.out.mono WS.out)⟩
 · have R : Hid (PLN c step = rt) := by show _ = _; rw [E.out]; rfl
   clear E
   go_enter Tryz.func63, Tryz.ntmps63
   go_upto_region 1 with fail
   rw [HW.out]
   go_wp2
   go_ret
   exact ⟨ret_int R.out.symm, BE.out⟩
set_option maxHeartbeats 2000000 in
set_option maxRecDepth 100000 in
theorem rateAt_any (c : Cf) (step : Int) (w : World) (h2 : c.ok2) :
 Calls Tryz.prog 29 #[.agg (pcs c), .int .i64 step] w fun e w' => e = .returned (.int .u32 (RATE c step)) ∧ Below w.heap.size w w' := by
 obtain ⟨X, hX⟩ : ∃ X, X = pcs c := ⟨_, rfl⟩
 have IC : Hid (∀ w, Calls Tryz.prog 20 #[.agg X] w fun e w' => e = .returned (.bool (ALW c)) ∧ Below w.heap.size w w') := fun w => by rw [hX]; exact isConfig_any c w
 have PL : Hid (ALW c = true → inB step 0 400 = true → ∀ w, Calls Tryz.prog 63 #[.agg X, .int .i64 step] w fun e w' => e = .returned (.int .u32 (PLN c step)) ∧ Below w.heap.size w w') := fun h g w => by rw [hX]; exact planned_any c step w h h2 (inB_iff.1 g)
 rw [← hX]
 obtain ⟨W, hW, b0, bel, hws⟩ := one_block w X 31
 have B0 : Hid _ := b0
 have X1 : Hid ((Tryz.prog.info? 31).map (·.size) = some X.size) := by show _ = _; rw [hX]; kernel_rfl
 have WS : Hid (w.heap.size ≤ W.heap.size) := by show _ ≤ _; omega
 have WT : Hid (w.heap.size < W.heap.size) := by show _ < _; omega
 have BE : Hid (Below w.heap.size w W) := bel
 have HW : Hid _ := hW
 clear b0 bel hW hX hws
 cases h1 : ALW c
 · have R : Hid (RATE c step = 0) := by show _ = _; unfold RATE; rw [if_neg (by rw [h1]; simp)]
   rw [h1] at IC
   clear PL
   go_enter Tryz.func29, Tryz.ntmps29
   go_upto_region 1 with fail
   rw [HW.out]
   go_wp2_with (first
    | (go_at_call 20; refine (IC.out _).mono ?_; rintro e w1 ⟨rfl, hb⟩; have HB : Hid _ := hb; clear hb)
    | (refine wpList_load_row rfl 31 _ rfl w.heap.size rfl 31 X (0, 0) _ B0.out Tryz.underlying31 rfl X1.out ?_))
   go_ret
   exact ⟨ret_int R.out.symm, BE.out.trans (HB.out.mono WS.out)⟩
 · rw [h1] at IC
   cases h3 : inB step 0 400
   · have R : Hid (RATE c step = 0) := by show _ = _; unfold RATE; rw [if_neg (by rw [h3]; simp)]
     clear PL
     go_enter Tryz.func29, Tryz.ntmps29
     go_upto_region 1 with fail
     rw [HW.out]
     go_wp2_with (first
      | (go_at_call 20; refine (IC.out _).mono ?_; rintro e w1 ⟨rfl, hb⟩; have HB : Hid _ := hb; clear hb)
      | (go_at_call 49; refine (within_any _ _ _ _).mono ?_; rintro e w' ⟨rfl, hw'⟩; subst w'; rw [h3])
      | (refine wpList_load_row rfl 31 _ rfl w.heap.size rfl 31 X (0, 0) _ B0.out Tryz.underlying31 rfl X1.out ?_))
     go_ret
     exact ⟨ret_int R.out.symm, BE.out.trans (HB.out.mono WS.out)⟩
   · have R : Hid (RATE c step = PLN c step) := by show _ = _; unfold RATE; rw [if_pos ⟨h1, h3⟩]
     have PL2 : Hid (∀ w, Calls Tryz.prog 63 #[.agg X, .int .i64 step] w fun e w' => e = .returned (.int .u32 (PLN c step)) ∧ Below w.heap.size w w') := PL.out h1 h3
     obtain ⟨v, hv⟩ : ∃ v, v = PLN c step := ⟨_, rfl⟩
     rw [← hv] at R PL2
     clear PL hv
     go_enter Tryz.func29, Tryz.ntmps29
     go_upto_region 1 with fail
     rw [HW.out]
     go_wp2_with (first
      | (go_at_call 20; refine (IC.out _).mono ?_; rintro e w1 ⟨rfl, hb⟩; have HB : Hid _ := hb; have B1 : Hid (w1.heap[w.heap.size]? = some (.cells X 31 (0, 0))) := (hb.block _ WT.out).trans B0.out; have s1 := hb.size; clear hb)
      | (go_at_call 49; refine (within_any _ _ _ _).mono ?_; rintro e w' ⟨rfl, hw'⟩; subst w'; rw [h3])
      | (go_at_call 63; refine (PL2.out _).mono ?_; rintro e w2 ⟨rfl, hb⟩; have HB2 : Hid _ := hb; clear hb)
      | (refine wpList_load_row rfl 31 _ rfl w.heap.size rfl 31 X (0, 0) _ B1.out Tryz.underlying31 rfl X1.out ?_)
      | (refine wpList_load_row rfl 31 _ rfl w.heap.size rfl 31 X (0, 0) _ B0.out Tryz.underlying31 rfl X1.out ?_))
     go_ret
     exact ⟨ret_int R.out.symm, (BE.out.trans (HB.out.mono WS.out)).trans (HB2.out.mono (Nat.le_trans WS.out s1))⟩
end Go.Proofs.YtoihkljlekknkaaGreat
