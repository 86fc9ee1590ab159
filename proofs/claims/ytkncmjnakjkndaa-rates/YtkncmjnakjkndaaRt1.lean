/-
  The rate of a step, as the program makes it. Conditions: the configuration's patterns are some (0 to 2^32 - 1), the step is an int.
-/
import Derived.Test.YtkncmjnakjkndaaCk4
import Derived.Test.YtkncmjnakjkndaaRefCurves
import Derived.Test.YtkncmjnakjkndaaRefLess
import Derived.Test.YtkncmjnakjkndaaRefDiv
import Derived.Deep.RegionHeld3
import Derived.Deep.RegionWith
namespace Go.Proofs.Ytkncmjnakjkndaa
open Go.RowKit
open Go.Joins (block_setCell cell_of_block unfrozen_of_block)
set_option linter.unusedVariables false
set_option linter.unusedSimpArgs false
/-- a rate that was halved so many times -/
def HLV (r : Int) : Nat → Int
  | 0 => r
  | n + 1 => MUL (HLV r n) 1056964608
theorem HLV_succ (r : Int) (n : Nat) : HLV r (n + 1) = MUL (HLV r n) 1056964608 := rfl
theorem HLV_bd (r : Int) (n : Nat) (h0 : 0 ≤ r) (h1 : r < 4294967296) : 0 ≤ HLV r n ∧ HLV r n < 4294967296 := by
  cases n with
  | zero => exact ⟨h0, h1⟩
  | succ n => exact MUL_bd _ _
def capOne (f : Int) : Int := if LESS 1065353216 f = true then 1065353216 else f
def WAV (c : Cf) (step : Int) : Int :=
  if step < c.warm then MUL c.rate (DIV (FROMI (step + 1)) (FROMI c.warm))
  else MUL (MUL c.rate 1056964608) (ADD 1065353216 (COS (capOne (DIV (FROMI (step - c.warm)) (FROMI (max (c.steps - c.warm) 1))))))
def PLN (c : Cf) (step : Int) : Int := if c.plan = 1 then HLV c.rate (step / c.span).toNat else if c.plan = 2 then WAV c step else c.rate
def RATE (c : Cf) (step : Int) : Int := if ALW c = true ∧ inB step 0 400 = true then PLN c step else 0
set_option maxHeartbeats 1000000 in
set_option maxRecDepth 100000 in
theorem halved_any (r n : Int) (w : World) (h0 : 0 ≤ r) (h1 : r < 4294967296) (hn : n ≤ 9223372036854775807) :
    Calls Try.prog 142 #[.int .u32 r, .int .i64 n] w fun e w' => e = .returned (.int .u32 (HLV r n.toNat)) ∧ w' = w := by
  go_enter Try.func142, Try.ntmps142
  go_wp2
  go_loop [0, 6] (fun rv iv => ∃ k : Nat, iv = .int .i64 k ∧ k ≤ n.toNat ∧ rv = .int .u32 (HLV r k)) (fun _ iv => n.toNat - (intOf iv).toNat)
  case atStart => exact ⟨0, rfl, by omega, rfl⟩
  case round =>
    obtain ⟨k, rfl, hk, rfl⟩ := hrel
    have hb := HLV_bd r k h0 h1
    have HS : Hid _ := HLV_succ r k
    obtain ⟨x, hx⟩ : ∃ x, x = HLV r k := ⟨_, rfl⟩
    rw [← hx] at hb HS ⊢
    obtain ⟨hb0, hb1⟩ := hb
    by_cases hlt : (k : Int) < n
    · clear hx
      go_wp2_with (first | (go_at_call 21; refine (mul_any _ _ _ hb0 hb1 (by omega) (by omega)).mono ?_; rintro e w' ⟨rfl, hw'⟩; subst w'))
      go_round
      case rel => exact ⟨k + 1, by go_num, by omega, by rw [HS.out]⟩
      case measure => simp [intOf]; omega
    · have e : k = n.toNat ∨ n < 0 := by omega
      have R : Hid (x = HLV r n.toNat) := by
        show _ = _
        rw [hx]
        rcases e with e | e
        · rw [e]
        · rw [show n.toNat = k by omega]
      clear hx e HS
      go_wp2
      go_ret
      exact ⟨ret_int R.out, rfl⟩
theorem below_dn {B : Nat} {a w : World} (h : Below B a w) (n : Nat) : Below B a (w.drewN n) := h.trans (Go.Joins.below_draws _ _ _)
theorem keepD {w a : World} {b : Nat} {x y z : Value} (h : a.cell? ⟨b, 10, none⟩ = some x ∧ a.cell? ⟨b, 13, none⟩ = some y ∧ a.cell? ⟨b, 15, none⟩ = some z ∧ Below w.heap.size w a) (n : Nat) :
    (a.drewN n).cell? ⟨b, 10, none⟩ = some x ∧ (a.drewN n).cell? ⟨b, 13, none⟩ = some y ∧ (a.drewN n).cell? ⟨b, 15, none⟩ = some z ∧ Below w.heap.size w (a.drewN n) := ⟨h.1, h.2.1, h.2.2.1, below_dn h.2.2.2 n⟩
set_option maxHeartbeats 4000000 in
set_option maxRecDepth 100000 in
theorem waved_any (c : Cf) (step : Int) (w : World) (h2 : c.ok2) (hr : -1 ≤ step ∧ step ≤ 400) (hw : 0 ≤ c.warm ∧ c.warm ≤ 200) (hs : 0 ≤ c.steps ∧ c.steps ≤ 200) :
    Calls Try.prog 143 #[.agg (pcs c), .int .i64 step] w fun e w' => e = .returned (.int .u32 (WAV c step)) ∧ Below w.heap.size w w' := by
  obtain ⟨X, hX⟩ : ∃ X, X = pcs c := ⟨_, rfl⟩
  rw [← hX]
  obtain ⟨r0, r1⟩ := h2.rate
  obtain ⟨W, hW, b0, bel, hws⟩ := one_block w X 58
  have c10 : W.cell? ⟨w.heap.size, 10, none⟩ = some (.int .i64 c.steps) := (cell_of_block b0 10).trans (by rw [hX]; rfl)
  have c13 : W.cell? ⟨w.heap.size, 13, none⟩ = some (.int .i64 c.warm) := (cell_of_block b0 13).trans (by rw [hX]; rfl)
  have c15 : W.cell? ⟨w.heap.size, 15, none⟩ = some (.int .u32 c.rate) := (cell_of_block b0 15).trans (by rw [hX]; rfl)
  have BE : Hid (Below w.heap.size w W) := bel
  have HW : Hid _ := hW
  have E : Hid (WAV c step = if step < c.warm then MUL c.rate (DIV (FROMI (step + 1)) (FROMI c.warm)) else MUL (MUL c.rate 1056964608) (ADD 1065353216 (COS (capOne (DIV (FROMI (step - c.warm)) (FROMI (max (c.steps - c.warm) 1))))))) := rfl
  obtain ⟨wm, hwm⟩ : ∃ x, x = c.warm := ⟨_, rfl⟩
  obtain ⟨st, hst⟩ : ∃ x, x = c.steps := ⟨_, rfl⟩
  obtain ⟨rt, hrt⟩ : ∃ x, x = c.rate := ⟨_, rfl⟩
  rw [← hwm] at hw c13 E
  rw [← hst] at hs c10 E
  rw [← hrt] at r0 r1 c15 E
  clear b0 bel hW hX hws hwm hst hrt
  by_cases hlt : step < wm
  · have f1 := FROMI_bd (step + 1)
    have f2 := FROMI_bd wm
    have R : Hid (WAV c step = MUL rt (DIV (FROMI (step + 1)) (FROMI wm))) := by show _ = _; rw [E.out, if_pos hlt]
    have d1 := DIV_bd (FROMI (step + 1)) (FROMI wm)
    have z1 : IntKind.i64.wrap (step + 1) = step + 1 := by rw [IntKind.wrap_i64]; omega
    clear E
    go_enter Try.func143, Try.ntmps143
    go_upto_region 1 with fail
    rw [HW.out]
    go_wp2_with fail
    go_quiet (first
      | (go_at_call 28; exact Calls.quiet_of_same (fromInt_any _ _ (by omega) (by omega)))
      | (go_at_call 22; exact Calls.quiet_of (div_any _ _ _ f1.1 f1.2 f2.1 f2.2))
      | (go_at_call 21; exact Calls.quiet_of_same (mul_any _ _ _ r0 r1 d1.1 d1.2)))
    go_wp2
    go_ret
    exact ⟨ret_int R.out.symm, below_dn BE.out _⟩
  · obtain ⟨mx, hmx⟩ : ∃ m, m = max (st - wm) 1 := ⟨_, rfl⟩
    have f1 := FROMI_bd (step - wm)
    have f2 := FROMI_bd mx
    have mxb : 1 ≤ mx ∧ mx ≤ 200 := by omega
    obtain ⟨fq, hfq⟩ : ∃ f, f = DIV (FROMI (step - wm)) (FROMI mx) := ⟨_, rfl⟩
    have d1 := DIV_bd (FROMI (step - wm)) (FROMI mx)
    rw [← hfq] at d1
    have R : Hid (WAV c step = MUL (MUL rt 1056964608) (ADD 1065353216 (COS (capOne fq)))) := by show _ = _; rw [E.out, if_neg hlt, ← hmx, ← hfq]
    have FQ := hfq.symm
    have z1 : IntKind.i64.wrap (step - wm) = step - wm := by rw [IntKind.wrap_i64]; omega
    have z2 : IntKind.i64.wrap (st - wm) = st - wm := by rw [IntKind.wrap_i64]; omega
    have MX := hmx.symm
    clear E hfq hmx
    have m1 := MUL_bd rt 1056964608
    have cb := COS_bd (capOne fq)
    have ab := ADD_bd 1065353216 (COS (capOne fq)) (by omega) (by omega) cb.1 cb.2
    have ofq : 0 ≤ capOne fq ∧ capOne fq < 4294967296 := by unfold capOne; split <;> omega
    have hcf : capOne fq = if LESS 1065353216 fq = true then 1065353216 else fq := rfl
    have L1 : Hid (∀ w, Calls Try.prog 26 #[.int .u32 1065353216, .int .u32 fq] w fun e w' => e = .returned (.bool (LESS 1065353216 fq)) ∧ w' = w) := fun w => less_any 1065353216 fq w (by omega) (by omega) d1.1 d1.2
    obtain ⟨g, hg⟩ : ∃ g, g = capOne fq := ⟨_, rfl⟩
    rw [← hg] at hcf cb ab R ofq
    clear hg
    obtain ⟨co, hco⟩ : ∃ x, COS g = x := ⟨_, rfl⟩
    have C1 : Hid (∀ w, Calls Try.prog 36 #[.int .u32 g] w fun e w' => e = .returned (.int .u32 co) ∧ Below w.heap.size w w') := fun w => by rw [← hco]; exact cos_any g w ofq.1 ofq.2
    rw [hco] at cb ab R
    obtain ⟨ad, had⟩ : ∃ x, ADD 1065353216 co = x := ⟨_, rfl⟩
    have A1 : Hid (∀ w, Calls Try.prog 16 #[.int .u32 1065353216, .int .u32 co] w fun e w' => e = .returned (.int .u32 ad) ∧ w' = w) := fun w => by rw [← had]; exact add_any 1065353216 co w (by omega) (by omega) cb.1 cb.2
    rw [had] at ab R
    obtain ⟨m, hmm⟩ : ∃ x, MUL rt 1056964608 = x := ⟨_, rfl⟩
    have M1 : Hid (∀ w, Calls Try.prog 21 #[.int .u32 rt, .int .u32 1056964608] w fun e w' => e = .returned (.int .u32 m) ∧ w' = w) := fun w => by rw [← hmm]; exact mul_any rt 1056964608 w r0 r1 (by omega) (by omega)
    rw [hmm] at m1 R
    obtain ⟨u, hu⟩ : ∃ x, MUL m ad = x := ⟨_, rfl⟩
    have M2 : Hid (∀ w, Calls Try.prog 21 #[.int .u32 m, .int .u32 ad] w fun e w' => e = .returned (.int .u32 u) ∧ w' = w) := fun w => by rw [← hu]; exact mul_any m ad w m1.1 m1.2 ab.1 ab.2
    rw [hu] at R
    clear hco had hmm hu m1 cb ab ofq
    cases hl : LESS 1065353216 fq
    · rw [hl] at hcf L1
      have cf : g = fq := by simpa using hcf
      subst cf
      clear hcf hl
      by_cases hm : st - wm < 1
      · have e1 : mx = 1 := by omega
        subst e1
        clear MX
        go_enter Try.func143, Try.ntmps143
        go_upto_region 1 with fail
        rw [HW.out]
        go_wp2_with fail
        have S0 : W.drew.cell? ⟨w.heap.size, 10, none⟩ = some (.int .i64 st) ∧ W.drew.cell? ⟨w.heap.size, 13, none⟩ = some (.int .i64 wm) ∧ W.drew.cell? ⟨w.heap.size, 15, none⟩ = some (.int .u32 rt) ∧ Below w.heap.size w W.drew := ⟨c10, c13, c15, BE.out.drew⟩
        go_region_held3 (fun w' => w'.cell? ⟨w.heap.size, 10, none⟩ = some (.int .i64 st) ∧ w'.cell? ⟨w.heap.size, 13, none⟩ = some (.int .i64 wm) ∧ w'.cell? ⟨w.heap.size, 15, none⟩ = some (.int .u32 rt) ∧ Below w.heap.size w w') (exact ⟨c10, c13, c15, below_dn BE.out _⟩) (first
          | (go_at_call 28; refine (fromInt_any _ _ (by omega) (by omega)).mono ?_; rintro e w' ⟨rfl, hw'⟩; subst w')
          | (go_at_call 22; refine (div_any _ _ _ f1.1 f1.2 f2.1 f2.2).mono ?_; rintro e w' ⟨rfl, nd, hw'⟩; subst w'; rw [FQ]))
        all_goals
          go_wp2_with (first
            | (go_at_call 26; refine (L1.out _).mono ?_; rintro e w' ⟨rfl, hw'⟩; subst w')
            | (go_at_call 36; refine (C1.out _).mono ?_; rintro e w5 ⟨rfl, hb⟩; have HB5 : Hid _ := hb; clear hb)
            | (go_at_call 16; refine (A1.out _).mono ?_; rintro e w' ⟨rfl, hw'⟩; subst w')
            | (go_at_call_of 21 (Value.int IntKind.u32 rt); refine (M1.out _).mono ?_; rintro e w' ⟨rfl, hw'⟩; subst w')
            | (go_at_call_of 21 (Value.int IntKind.u32 m); refine (M2.out _).mono ?_; rintro e w' ⟨rfl, hw'⟩; subst w'))
          go_ret
          exact ⟨ret_int R.out.symm, (below_dn BE.out _).trans (HB5.out.mono (below_dn BE.out _).size)⟩
      · have e1 : mx = st - wm := by omega
        subst e1
        clear MX
        go_enter Try.func143, Try.ntmps143
        go_upto_region 1 with fail
        rw [HW.out]
        go_wp2_with fail
        have S0 : W.drew.cell? ⟨w.heap.size, 10, none⟩ = some (.int .i64 st) ∧ W.drew.cell? ⟨w.heap.size, 13, none⟩ = some (.int .i64 wm) ∧ W.drew.cell? ⟨w.heap.size, 15, none⟩ = some (.int .u32 rt) ∧ Below w.heap.size w W.drew := ⟨c10, c13, c15, BE.out.drew⟩
        go_region_held3 (fun w' => w'.cell? ⟨w.heap.size, 10, none⟩ = some (.int .i64 st) ∧ w'.cell? ⟨w.heap.size, 13, none⟩ = some (.int .i64 wm) ∧ w'.cell? ⟨w.heap.size, 15, none⟩ = some (.int .u32 rt) ∧ Below w.heap.size w w') (exact ⟨c10, c13, c15, below_dn BE.out _⟩) (first
          | (go_at_call 28; refine (fromInt_any _ _ (by omega) (by omega)).mono ?_; rintro e w' ⟨rfl, hw'⟩; subst w')
          | (go_at_call 22; refine (div_any _ _ _ f1.1 f1.2 f2.1 f2.2).mono ?_; rintro e w' ⟨rfl, nd, hw'⟩; subst w'; rw [FQ]))
        all_goals
          go_wp2_with (first
            | (go_at_call 26; refine (L1.out _).mono ?_; rintro e w' ⟨rfl, hw'⟩; subst w')
            | (go_at_call 36; refine (C1.out _).mono ?_; rintro e w5 ⟨rfl, hb⟩; have HB5 : Hid _ := hb; clear hb)
            | (go_at_call 16; refine (A1.out _).mono ?_; rintro e w' ⟨rfl, hw'⟩; subst w')
            | (go_at_call_of 21 (Value.int IntKind.u32 rt); refine (M1.out _).mono ?_; rintro e w' ⟨rfl, hw'⟩; subst w')
            | (go_at_call_of 21 (Value.int IntKind.u32 m); refine (M2.out _).mono ?_; rintro e w' ⟨rfl, hw'⟩; subst w'))
          go_ret
          exact ⟨ret_int R.out.symm, (below_dn BE.out _).trans (HB5.out.mono (below_dn BE.out _).size)⟩
    · rw [hl] at hcf L1
      have cf : g = 1065353216 := by simpa using hcf
      subst cf
      clear hcf hl
      by_cases hm : st - wm < 1
      · have e1 : mx = 1 := by omega
        subst e1
        clear MX
        go_enter Try.func143, Try.ntmps143
        go_upto_region 1 with fail
        rw [HW.out]
        go_wp2_with fail
        have S0 : W.drew.cell? ⟨w.heap.size, 10, none⟩ = some (.int .i64 st) ∧ W.drew.cell? ⟨w.heap.size, 13, none⟩ = some (.int .i64 wm) ∧ W.drew.cell? ⟨w.heap.size, 15, none⟩ = some (.int .u32 rt) ∧ Below w.heap.size w W.drew := ⟨c10, c13, c15, BE.out.drew⟩
        go_region_held3 (fun w' => w'.cell? ⟨w.heap.size, 10, none⟩ = some (.int .i64 st) ∧ w'.cell? ⟨w.heap.size, 13, none⟩ = some (.int .i64 wm) ∧ w'.cell? ⟨w.heap.size, 15, none⟩ = some (.int .u32 rt) ∧ Below w.heap.size w w') (exact ⟨c10, c13, c15, below_dn BE.out _⟩) (first
          | (go_at_call 28; refine (fromInt_any _ _ (by omega) (by omega)).mono ?_; rintro e w' ⟨rfl, hw'⟩; subst w')
          | (go_at_call 22; refine (div_any _ _ _ f1.1 f1.2 f2.1 f2.2).mono ?_; rintro e w' ⟨rfl, nd, hw'⟩; subst w'; rw [FQ]))
        all_goals
          go_wp2_with (first
            | (go_at_call 26; refine (L1.out _).mono ?_; rintro e w' ⟨rfl, hw'⟩; subst w')
            | (go_at_call 36; refine (C1.out _).mono ?_; rintro e w5 ⟨rfl, hb⟩; have HB5 : Hid _ := hb; clear hb)
            | (go_at_call 16; refine (A1.out _).mono ?_; rintro e w' ⟨rfl, hw'⟩; subst w')
            | (go_at_call_of 21 (Value.int IntKind.u32 rt); refine (M1.out _).mono ?_; rintro e w' ⟨rfl, hw'⟩; subst w')
            | (go_at_call_of 21 (Value.int IntKind.u32 m); refine (M2.out _).mono ?_; rintro e w' ⟨rfl, hw'⟩; subst w'))
          go_ret
          exact ⟨ret_int R.out.symm, (below_dn BE.out _).trans (HB5.out.mono (below_dn BE.out _).size)⟩
      · have e1 : mx = st - wm := by omega
        subst e1
        clear MX
        go_enter Try.func143, Try.ntmps143
        go_upto_region 1 with fail
        rw [HW.out]
        go_wp2_with fail
        have S0 : W.drew.cell? ⟨w.heap.size, 10, none⟩ = some (.int .i64 st) ∧ W.drew.cell? ⟨w.heap.size, 13, none⟩ = some (.int .i64 wm) ∧ W.drew.cell? ⟨w.heap.size, 15, none⟩ = some (.int .u32 rt) ∧ Below w.heap.size w W.drew := ⟨c10, c13, c15, BE.out.drew⟩
        go_region_held3 (fun w' => w'.cell? ⟨w.heap.size, 10, none⟩ = some (.int .i64 st) ∧ w'.cell? ⟨w.heap.size, 13, none⟩ = some (.int .i64 wm) ∧ w'.cell? ⟨w.heap.size, 15, none⟩ = some (.int .u32 rt) ∧ Below w.heap.size w w') (exact ⟨c10, c13, c15, below_dn BE.out _⟩) (first
          | (go_at_call 28; refine (fromInt_any _ _ (by omega) (by omega)).mono ?_; rintro e w' ⟨rfl, hw'⟩; subst w')
          | (go_at_call 22; refine (div_any _ _ _ f1.1 f1.2 f2.1 f2.2).mono ?_; rintro e w' ⟨rfl, nd, hw'⟩; subst w'; rw [FQ]))
        all_goals
          go_wp2_with (first
            | (go_at_call 26; refine (L1.out _).mono ?_; rintro e w' ⟨rfl, hw'⟩; subst w')
            | (go_at_call 36; refine (C1.out _).mono ?_; rintro e w5 ⟨rfl, hb⟩; have HB5 : Hid _ := hb; clear hb)
            | (go_at_call 16; refine (A1.out _).mono ?_; rintro e w' ⟨rfl, hw'⟩; subst w')
            | (go_at_call_of 21 (Value.int IntKind.u32 rt); refine (M1.out _).mono ?_; rintro e w' ⟨rfl, hw'⟩; subst w')
            | (go_at_call_of 21 (Value.int IntKind.u32 m); refine (M2.out _).mono ?_; rintro e w' ⟨rfl, hw'⟩; subst w'))
          go_ret
          exact ⟨ret_int R.out.symm, (below_dn BE.out _).trans (HB5.out.mono (below_dn BE.out _).size)⟩
end Go.Proofs.Ytkncmjnakjkndaa
