/-
  What soft.Less, soft.FromInt and soft.ToInt answer: P4 of the document. No condition.
-/
import Derived.Test.YtoihkljlekknkaaGreatRefOf
import Derived.Test.YtoihkljlekknkaaGreatMath
namespace Go.Proofs.YtoihkljlekknkaaGreat
open Go.RowKit
set_option linter.unusedVariables false
set_option linter.unusedSimpArgs false
/-- where a number stands among all of them -/
def plc (a : Int) : Int := if 2147483648 ≤ a then -(a % 2147483648) else a
set_option maxHeartbeats 400000 in
theorem place_any (a : Int) (w : World) (h0 : 0 ≤ a) (h1 : a < 4294967296) :
 Calls Tryz.prog 98 #[.int .u32 a] w fun e w' => e = .returned (.int .i64 (plc a)) ∧ w' = w := by
 have s1 := and_sign a h0 h1
 unfold plc
 by_cases h : 2147483648 ≤ a
 · have e1 : a / 2147483648 * 2147483648 = 2147483648 := by omega
   rw [e1] at s1
   rw [if_pos h]
   clear e1
   go_enter Tryz.func98, Tryz.ntmps98
   go_wp2_with (first | (go_at_call 118; refine (size_any _ _ h0 h1).mono ?_; rintro e w' ⟨rfl, rfl⟩))
   go_ret
   exact ⟨rfl, rfl⟩
 · have e1 : a / 2147483648 * 2147483648 = 0 := by omega
   rw [e1] at s1
   rw [if_neg h]
   clear e1
   go_enter Tryz.func98, Tryz.ntmps98
   go_wp2_with (first | (go_at_call 118; refine (size_any _ _ h0 h1).mono ?_; rintro e w' ⟨rfl, rfl⟩))
   go_ret
   exact ⟨rfl, rfl⟩
/-- P4 -/
def LESS (a b : Int) : Bool := !isNone a && !isNone b && decide (plc a < plc b)
set_option maxHeartbeats 400000 in
theorem less_any (a b : Int) (w : World) (h0 : 0 ≤ a) (h1 : a < 4294967296) (g0 : 0 ≤ b) (g1 : b < 4294967296) :
 Calls Tryz.prog 60 #[.int .u32 a, .int .u32 b] w fun e w' => e = .returned (.bool (LESS a b)) ∧ w' = w := by
 unfold LESS
 cases na : isNone a <;> cases nb : isNone b
 all_goals
  go_enter Tryz.func60, Tryz.ntmps60
  go_wp2_with (first | (go_at_call 91; refine (none_any _ _ (by assumption) (by assumption)).mono ?_; rintro e w' ⟨rfl, rfl⟩) | (go_at_call 98; refine (place_any _ _ (by assumption) (by assumption)).mono ?_; rintro e w' ⟨rfl, rfl⟩))
  go_ret
  exact ⟨ret_bool (by simp), rfl⟩
/-- P4 -/
def FROMI (n : Int) : Int := if n < 0 then 2147483648 + RI (-n) 0 else RI n 0
theorem neg_wrap (n : Int) (h0 : -9223372036854775808 ≤ n) (h : n < 0) : IntKind.u64.wrap (-IntKind.u64.wrap n) = -n := by
 rw [IntKind.wrap_u64, IntKind.wrap_u64]; omega
set_option maxHeartbeats 400000 in
theorem fromInt_any (n : Int) (w : World) (h0 : -9223372036854775808 ≤ n) (h1 : n ≤ 9223372036854775807) :
 Calls Tryz.prog 59 #[.int .i64 n] w fun e w' => e = .returned (.int .u32 (FROMI n)) ∧ w' = w := by
 unfold FROMI
 by_cases h : n < 0
 · rw [if_pos h]
   have t := neg_wrap n h0 h
   go_enter Tryz.func59, Tryz.ntmps59
   go_wp2_with (first | (go_at_call 97; refine (rounded_any _ _ _ _ (by omega) (by omega) (by omega) (by omega) (by omega)).mono ?_; rintro e w' ⟨rfl, rfl⟩))
   go_ret
   exact ⟨rfl, rfl⟩
 · rw [if_neg h]
   go_enter Tryz.func59, Tryz.ntmps59
   go_wp2_with (first | (go_at_call 97; refine (rounded_any _ _ _ _ (by omega) (by omega) (by omega) (by omega) (by omega)).mono ?_; rintro e w' ⟨rfl, rfl⟩))
   go_ret
   exact ⟨ret_int (by omega), rfl⟩
theorem pow_bd0 (m : Int) (j : Nat) (h0 : 0 ≤ m) : 0 ≤ m * 2 ^ j := Int.mul_nonneg h0 (Int.le_of_lt (pos_pow j))
/-- the whole number nearest to m times 2^e, at most 2^31 -/
def WH (m e : Int) : Int := if e < 0 then (rne m.toNat (-e).toNat : Nat) else min (m * 2 ^ (min e 8).toNat) 2147483648
set_option maxHeartbeats 400000 in
theorem whole_any (a : Int) (w : World) (h0 : 0 ≤ a) (h1 : a < 4294967296) (ha : a % 2147483648 ≤ 2139095040) :
 Calls Tryz.prog 139 #[.int .u32 a] w fun e w' => e = .returned (.int .i64 (WH (manI a) (exI a))) ∧ w' = w := by
 have m1 := manI_bd a
 have x1 := exI_bd a
 unfold WH
 by_cases h : exI a < 0
 · rw [if_pos h]
   have hr : rne (manI a).toNat (-exI a).toNat ≤ 16777216 := by
    apply rne_le
    have := pow_pos' (-exI a).toNat
    refine Nat.lt_of_lt_of_le (show (manI a).toNat < 16777216 by omega) ?_
    omega
   go_enter Tryz.func139, Tryz.ntmps139
   go_wp2_with (first | (go_at_call 99; refine (parts_any _ _ (by assumption) (by assumption)).mono ?_; rintro e w' ⟨rfl, rfl⟩) | (go_at_call 120; refine (shifted_any _ _ _ (by omega) (by omega) (by omega)).mono ?_; rintro e w' ⟨rfl, rfl⟩))
   go_ret
   exact ⟨rfl, rfl⟩
 · rw [if_neg h]
   by_cases h8 : 8 < exI a
   · have T := u64_small (manI a * 256) (by omega) (by omega)
     have e8 : (min (exI a) 8).toNat = 8 := by omega
     rw [e8, show (2 : Int) ^ 8 = 256 from rfl]
     clear e8
     go_enter Tryz.func139, Tryz.ntmps139
     go_wp2_with (first | (go_at_call 99; refine (parts_any _ _ (by assumption) (by assumption)).mono ?_; rintro e w' ⟨rfl, rfl⟩))
     all_goals (go_ret; refine ⟨congrArg Ending.returned (congrArg (Value.int IntKind.i64) ?_), rfl⟩)
     all_goals first | omega | (rw [w64 _ (by omega)]; omega)
   · have e8 : (min (exI a) 8).toNat = (exI a).toNat := by omega
     rw [e8]
     clear e8
     obtain ⟨t1, t2, t3⟩ := shl_gap (manI a) (exI a) m1.1 m1.2 (by omega) (by omega)
     obtain ⟨P, hP⟩ : ∃ P, P = manI a * 2 ^ (exI a).toNat := ⟨_, rfl⟩
     replace t1 := t1.trans hP.symm
     rw [← hP] at t2 t3 ⊢
     clear hP
     go_enter Tryz.func139, Tryz.ntmps139
     go_wp2_with (first | (go_at_call 99; refine (parts_any _ _ (by assumption) (by assumption)).mono ?_; rintro e w' ⟨rfl, rfl⟩))
     all_goals (go_ret; refine ⟨congrArg Ending.returned (congrArg (Value.int IntKind.i64) ?_), rfl⟩)
     all_goals first | omega | (rw [w64 _ (by omega)]; omega)
/-- P4 -/
def TOI (a : Int) : Int := if isNone a = true then 0 else if 2147483648 ≤ a then -WH (manI a) (exI a) else WH (manI a) (exI a)
theorem WH_bd (a : Int) : 0 ≤ WH (manI a) (exI a) ∧ WH (manI a) (exI a) ≤ 2147483648 := by
 have m1 := manI_bd a
 unfold WH
 split
 · have hr : rne (manI a).toNat (-exI a).toNat ≤ 16777216 := by
    apply rne_le
    have := pow_pos' (-exI a).toNat
    refine Nat.lt_of_lt_of_le (show (manI a).toNat < 16777216 by omega) ?_
    omega
   omega
 · have := (pow_bd0 (manI a) (min (exI a) 8).toNat m1.1)
   omega
set_option maxHeartbeats 400000 in
theorem toInt_any (a : Int) (w : World) (h0 : 0 ≤ a) (h1 : a < 4294967296) :
 Calls Tryz.prog 137 #[.int .u32 a] w fun e w' => e = .returned (.int .i64 (TOI a)) ∧ w' = w := by
 unfold TOI
 have s1 := and_sign a h0 h1
 have hw := WH_bd a
 cases na : isNone a
 · have n1 : ¬ 2139095040 < a % 2147483648 := by unfold isNone at na; simpa using na
   have n2 : a % 2147483648 ≤ 2139095040 := by omega
   clear n1
   rw [if_neg (by simp)]
   generalize hW : WH (manI a) (exI a) = W at *
   by_cases h : 2147483648 ≤ a
   · have e1 : a / 2147483648 * 2147483648 = 2147483648 := by omega
     rw [e1] at s1
     rw [if_pos h]
     clear e1
     go_enter Tryz.func137, Tryz.ntmps137
     go_wp2_with (first | (go_at_call 91; refine (none_any _ _ (by assumption) (by assumption)).mono ?_; rintro e w' ⟨rfl, rfl⟩) | (go_at_call 139; refine (whole_any _ _ (by assumption) (by assumption) (by assumption)).mono ?_; rintro e w' ⟨rfl, rfl⟩))
     go_ret
     exact ⟨rfl, rfl⟩
   · have e1 : a / 2147483648 * 2147483648 = 0 := by omega
     rw [e1] at s1
     rw [if_neg h]
     clear e1
     go_enter Tryz.func137, Tryz.ntmps137
     go_wp2_with (first | (go_at_call 91; refine (none_any _ _ (by assumption) (by assumption)).mono ?_; rintro e w' ⟨rfl, rfl⟩) | (go_at_call 139; refine (whole_any _ _ (by assumption) (by assumption) (by assumption)).mono ?_; rintro e w' ⟨rfl, rfl⟩))
     go_ret
     exact ⟨rfl, rfl⟩
 · rw [if_pos rfl]
   go_enter Tryz.func137, Tryz.ntmps137
   go_wp2_with (first | (go_at_call 91; refine (none_any _ _ (by assumption) (by assumption)).mono ?_; rintro e w' ⟨rfl, rfl⟩))
   go_ret
   exact ⟨rfl, rfl⟩
end Go.Proofs.YtoihkljlekknkaaGreat
/-
  What soft.polynomial, powerOf2 and the middle part of soft.Exp answer: P4a of the document. Conditions: as each theorem names them.
-/
namespace Go.Proofs.YtoihkljlekknkaaGreat
open Go.RowKit
set_option linter.unusedVariables false
set_option linter.unusedSimpArgs false
/-- a polynomial behind its first k + 1 coefficients -/
def polyK (c : Nat → Int) (x : Int) : Nat → Int
 | 0 => c 0
 | k + 1 => ADD (MUL (polyK c x k) x) (c (k + 1))
theorem MUL_bd' (a b : Int) : 0 ≤ MUL a b ∧ MUL a b < 4294967296 := by
 have h1 := sgn2_or a b
 have h2 := RI_bd (manI a * manI b) (exI a + exI b)
 unfold MUL
 split
 · omega
 · split
   · split <;> omega
   · split
     · split <;> omega
     · omega
theorem polyK_bd (c : Nat → Int) (x : Int) (hb : ∀ j, 0 ≤ c j ∧ c j < 4294967296) (k : Nat) : 0 ≤ polyK c x k ∧ polyK c x k < 4294967296 := by
 cases k with
 | zero => exact hb 0
 | succ k =>
   have m := MUL_bd' (polyK c x k) x
   exact ADD_bd _ _ m.1 m.2 (hb _).1 (hb _).2
set_option maxHeartbeats 1000000 in
theorem poly_any (x : Int) (n : Nat) (c : Nat → Int) (g : Nat) (w : World) (x0 : 0 ≤ x) (x1 : x < 4294967296) (n0 : 1 < n) (n1 : n ≤ 100)
 (hc : ∀ j, j < n → w.cell? ⟨g, j, none⟩ = some (.int .u32 (c j))) (hb : ∀ j, 0 ≤ c j ∧ c j < 4294967296) :
 Calls Tryz.prog 135 #[.int .u32 x, .slice (some ⟨g, 0, none⟩) n n] w fun e w' => e = .returned (.int .u32 (polyK c x (n - 1))) ∧ w' = w := by
 have z : ((n : Int) == 0) = false := by simp only [beq_eq_false_iff_ne, ne_eq]; omega
 have c0 := hc 0 (by omega)
 have n2 : ¬ n = 1 := by omega
 have HC : Hid _ := hc
 have HBB : Hid _ := hb
 clear hc hb
 go_enter Tryz.func135, Tryz.ntmps135
 go_wp2
 go_loop [5, 17] (fun pv iv => ∃ k : Nat, k ≤ n - 1 ∧ iv = .int .i64 k ∧ pv = .int .u32 (polyK c x k)) (fun _ iv => n - (intOf iv).toNat)
 case atStart => exact ⟨0, by omega, rfl, rfl⟩
 case round =>
  obtain ⟨k, hk, rfl, rfl⟩ := hrel
  have pb := polyK_bd c x HBB.out k
  have mb := MUL_bd' (polyK c x k) x
  have R : Hid (polyK c x (k + 1) = ADD (MUL (polyK c x k) x) (c (k + 1))) := rfl
  have R2 : Hid (polyK c x k = polyK c x k) := rfl
  obtain ⟨p, hp⟩ : ∃ p, p = polyK c x k := ⟨_, rfl⟩
  rw [← hp] at pb mb R ⊢
  by_cases hlt : k < n - 1
  · have ck : w.cell? ⟨g, 1 + k, none⟩ = some (.int .u32 (c (k + 1))) := by rw [Nat.add_comm]; exact HC.out (k + 1) (by omega)
    have cb := HBB.out (k + 1)
    clear hp
    go_wp2_with (first | (go_at_call 61; refine (mul_any _ _ _ (by omega) (by omega) (by omega) (by omega)).mono ?_; rintro e w' ⟨rfl, rfl⟩) | (go_at_call 56; refine (add_any _ _ _ (by omega) (by omega) (by omega) (by omega)).mono ?_; rintro e w' ⟨rfl, rfl⟩))
    go_round
    case rel => exact ⟨k + 1, by omega, by go_num, congrArg _ R.out.symm⟩
    case measure => simp [intOf]; omega
  · have hkn : k = n - 1 := by omega
    rw [hkn] at hp
    have HP : Hid _ := hp
    clear hp R hkn
    go_wp2
    go_ret
    refine ⟨congrArg Ending.returned (congrArg (Value.int IntKind.u32) ?_), rfl⟩
    exact HP.out
def POW (n : Int) : Int := (n + 127) * 8388608
set_option maxHeartbeats 400000 in
theorem pow2_any (n : Int) (w : World) (h0 : -127 ≤ n) (h1 : n ≤ 128) :
 Calls Tryz.prog 138 #[.int .i64 n] w fun e w' => e = .returned (.int .u32 (POW n)) ∧ w' = w := by
 unfold POW
 go_enter Tryz.func138, Tryz.ntmps138
 go_wp2
 go_ret
 exact ⟨rfl, rfl⟩
def cExp (j : Nat) : Int := if j = 0 then 985008993 else if j = 1 then 1007192201 else if j = 2 then 1026206379 else if j = 3 then 1042983595 else if j = 4 then 1056964608 else 1065353216
def cCos (j : Nat) : Int := if j = 0 then 936381697 else if j = 1 then 3132492641 else if j = 2 then 1026206379 else if j = 3 then 3204448256 else 1065353216
theorem cExp_bd (j : Nat) : 0 ≤ cExp j ∧ cExp j < 4294967296 := by unfold cExp; split <;> (try split) <;> (try split) <;> (try split) <;> (try split) <;> omega
theorem cCos_bd (j : Nat) : 0 ≤ cCos j ∧ cCos j < 4294967296 := by unfold cCos; split <;> (try split) <;> (try split) <;> (try split) <;> omega
/-- P4a -/
def EXPk (a : Int) : Int := TOI (MUL a 1069066811)
def EXPr (a : Int) : Int := SUB (SUB a (MUL (FROMI (EXPk a)) 1060205056)) (MUL (FROMI (EXPk a)) 901758606)
def EXPf (a : Int) : Int := MUL (MUL (polyK cExp (EXPr a) 6) (POW (EXPk a / 2))) (POW (EXPk a - EXPk a / 2))
def EXP (a : Int) : Int := if isNone a = true then 2143289344 else if LESS 1118925335 a = true then 2139095040 else if LESS a 3268407733 = true then 0 else EXPf a
theorem cells7 (w : World) : ∀ j, j < 7 → (w.alloc (.cells #[.int .u32 985008993, .int .u32 1007192201, .int .u32 1026206379, .int .u32 1042983595, .int .u32 1056964608, .int .u32 1065353216, .int .u32 1065353216] 29)).cell? ⟨w.heap.size, j, none⟩ = some (.int .u32 (cExp j)) := by
 intro j hj
 match j, hj with
 | 0, _ => simp [go_sem, cExp]
 | 1, _ => simp [go_sem, cExp]
 | 2, _ => simp [go_sem, cExp]
 | 3, _ => simp [go_sem, cExp]
 | 4, _ => simp [go_sem, cExp]
 | 5, _ => simp [go_sem, cExp]
 | 6, _ => simp [go_sem, cExp]
theorem FROMI_bd' (n : Int) : 0 ≤ FROMI n ∧ FROMI n < 4294967296 := by
 have h1 := RI_bd (-n) 0
 have h2 := RI_bd n 0
 unfold FROMI; split <;> omega
theorem SUB_bd (a b : Int) (h0 : 0 ≤ a) (h1 : a < 4294967296) : 0 ≤ SUB a b ∧ SUB a b < 4294967296 := ADD_bd a _ h0 h1 (by omega) (by omega)
theorem POW_bd (n : Int) (h0 : -127 ≤ n) (h1 : n ≤ 128) : 0 ≤ POW n ∧ POW n < 4294967296 := by unfold POW; omega
theorem bel1 (w : World) (o : Obj) : Below w.heap.size w (w.alloc o) := (Below.refl _ _).alloc (Nat.le_refl _) _
set_option maxHeartbeats 2000000 in
theorem exp_fin (a : Int) (w : World) (h0 : 0 ≤ a) (h1 : a < 4294967296) (na : isNone a = false) (l1 : LESS 1118925335 a = false) (l2 : LESS a 3268407733 = false) (kb : -156 ≤ EXPk a ∧ EXPk a ≤ 156) :
 Calls Tryz.prog 134 #[.int .u32 a] w fun e w' => e = .returned (.int .u32 (EXPf a)) ∧ Below w.heap.size w w' := by
 unfold EXPf EXPr
 unfold EXPk at kb ⊢
 have b1 := MUL_bd' a 1069066811
 obtain ⟨A1, e1⟩ : ∃ x, MUL a 1069066811 = x := ⟨_, rfl⟩
 rw [e1] at b1 kb ⊢
 obtain ⟨K, e2⟩ : ∃ x, TOI A1 = x := ⟨_, rfl⟩
 rw [e2] at kb ⊢
 have b3 := FROMI_bd' K
 obtain ⟨Fr, e3⟩ : ∃ x, FROMI K = x := ⟨_, rfl⟩
 rw [e3] at b3 ⊢
 have b4 := MUL_bd' Fr 1060205056
 obtain ⟨M1, e4⟩ : ∃ x, MUL Fr 1060205056 = x := ⟨_, rfl⟩
 rw [e4] at b4 ⊢
 have b5 := SUB_bd a M1 h0 h1
 obtain ⟨S1, e5⟩ : ∃ x, SUB a M1 = x := ⟨_, rfl⟩
 rw [e5] at b5 ⊢
 have b6 := MUL_bd' Fr 901758606
 obtain ⟨M2, e6⟩ : ∃ x, MUL Fr 901758606 = x := ⟨_, rfl⟩
 rw [e6] at b6 ⊢
 have b7 := SUB_bd S1 M2 b5.1 b5.2
 obtain ⟨R, e7⟩ : ∃ x, SUB S1 M2 = x := ⟨_, rfl⟩
 rw [e7] at b7 ⊢
 have b8 := polyK_bd cExp R cExp_bd 6
 obtain ⟨P, e8⟩ : ∃ x, polyK cExp R 6 = x := ⟨_, rfl⟩
 rw [e8] at b8 ⊢
 have b9 := POW_bd (K / 2) (by omega) (by omega)
 have b10 := POW_bd (K - K / 2) (by omega) (by omega)
 obtain ⟨W1, e9⟩ : ∃ x, POW (K / 2) = x := ⟨_, rfl⟩
 obtain ⟨W2, e10⟩ : ∃ x, POW (K - K / 2) = x := ⟨_, rfl⟩
 rw [e9] at b9
 rw [e10] at b10
 rw [e9, e10]
 have b11 := MUL_bd' P W1
 obtain ⟨Q1, e11⟩ : ∃ x, MUL P W1 = x := ⟨_, rfl⟩
 rw [e11] at b11 ⊢
 go_enter Tryz.func134, Tryz.ntmps134
 go_wp2_with (first | (go_at_call 91; refine (none_any _ _ (by assumption) (by assumption)).mono ?_; rintro e w' ⟨rfl, rfl⟩) | (go_at_call 60; refine (less_any _ _ _ (by omega) (by omega) (by omega) (by omega)).mono ?_; rintro e w' ⟨rfl, rfl⟩) | (go_at_call 61; refine (mul_any _ _ _ (by omega) (by omega) (by omega) (by omega)).mono ?_; rintro e w' ⟨rfl, rfl⟩) | (go_at_call 64; refine (sub_any _ _ _ (by omega) (by omega) (by omega) (by omega)).mono ?_; rintro e w' ⟨rfl, rfl⟩) | (go_at_call 137; refine (toInt_any _ _ (by omega) (by omega)).mono ?_; rintro e w' ⟨rfl, rfl⟩) | (go_at_call 59; refine (fromInt_any _ _ (by omega) (by omega)).mono ?_; rintro e w' ⟨rfl, rfl⟩))
 refine (poly_any R 7 cExp _ _ b7.1 b7.2 (by decide) (by decide) (cells7 _) cExp_bd).mono ?_
 rintro e w' ⟨rfl, rfl⟩
 go_wp2_with (first | (go_at_call 61; refine (mul_any _ _ _ (by omega) (by omega) (by omega) (by omega)).mono ?_; rintro e w' ⟨rfl, rfl⟩) | (go_at_call 138; refine (pow2_any _ _ (by omega) (by omega)).mono ?_; rintro e w' ⟨rfl, rfl⟩))
 go_ret
 refine ⟨congrArg Ending.returned (congrArg (Value.int IntKind.u32) ?_), bel1 _ _⟩
 rfl
end Go.Proofs.YtoihkljlekknkaaGreat
/-
  What tutorref.full answers: the same number with 24 bits. Conditions: a finite number that is not 0.
-/
namespace Go.Proofs.YtoihkljlekknkaaGreat
open Go.RowKit
set_option linter.unusedVariables false
set_option linter.unusedSimpArgs false
/-- how many places a number is short of 24 bits -/
def shortI (a : Int) : Nat := 24 - bl (manI a).toNat
theorem pow_lt_of (m : Int) (j u : Nat) (h0 : 0 < m) (hu1 : m * 2 ^ u < 16777216) (h : m * 2 ^ j < 8388608) (hu : 8388608 ≤ m * 2 ^ u) : j < u := by
 refine Nat.lt_of_not_le fun hle => ?_
 have := (pow_bd m u j (by omega) hle).2
 omega
theorem pow_uniq (m : Int) (j u : Nat) (h0 : 0 < m) (h : 8388608 ≤ m * 2 ^ j) (h' : m * 2 ^ j < 16777216) (hu : 8388608 ≤ m * 2 ^ u) (hu1 : m * 2 ^ u < 16777216) : j = u := by
 rcases Nat.lt_trichotomy j u with hl | hl | hl
 · have := (pow_bd m (j + 1) u (by omega) hl).2
   have := pow_next m j
   omega
 · exact hl
 · have := (pow_bd m (u + 1) j (by omega) hl).2
   have := pow_next m u
   omega
theorem Box.put34 {w : World} {B : Nat} {u0 u1 u2 u3 u4 : Value} (b : Box w B u0 u1 u2 u3 u4) (v3 v4 : Value) : Box ((w.setCell ⟨B, 3, none⟩ v3).setCell ⟨B, 4, none⟩ v4) B u0 u1 u2 v3 v4 := by
 obtain ⟨c0, c1, c2, c3, c4, f0, f1, f2, f3, f4, lt⟩ := b
 constructor <;> simp [go_sem, c0, c1, c2, c3, c4, f0, f1, f2, f3, f4, lt]
theorem Box.put34Other {w : World} {B C : Nat} {u0 u1 u2 u3 u4 : Value} (b : Box w B u0 u1 u2 u3 u4) (hC : C ≠ B) (v3 v4 : Value) : Box ((w.setCell ⟨C, 3, none⟩ v3).setCell ⟨C, 4, none⟩ v4) B u0 u1 u2 u3 u4 := by
 obtain ⟨c0, c1, c2, c3, c4, f0, f1, f2, f3, f4, lt⟩ := b
 constructor <;> simp [go_sem, c0, c1, c2, c3, c4, f0, f1, f2, f3, f4, lt, hC]
def mea (wr : World) (B : Nat) : Nat := (intOf ((wr.cell? ⟨B, 4, none⟩).getD undef) + 300).toNat
theorem mea_of {wr : World} {B : Nat} {x : Int} (h : wr.cell? ⟨B, 4, none⟩ = some (.int .i64 x)) : mea wr B = (x + 300).toNat := by unfold mea; rw [h]; rfl
set_option maxHeartbeats 1000000 in
theorem full_any (n i s : Bool) (m e : Int) (u : Nat) (w : World) (h0 : 0 < m) (h1 : m < 16777216) (hu : 8388608 ≤ m * 2 ^ u) (hu1 : m * 2 ^ u < 16777216) (e0 : -149 ≤ e) (e1 : e ≤ 105) (u1 : u ≤ 24) :
 Calls Tryz.prog 81 #[.agg #[.bool n, .bool i, .bool s, .int .i64 m, .int .i64 e]] w fun r w' => r = .returned (.agg #[.bool n, .bool i, .bool s, .int .i64 (m * 2 ^ u), .int .i64 (e - u)]) ∧ Below w.heap.size w w' := by
 go_enter Tryz.func81, Tryz.ntmps81
 go_wp2
 go_loopw [4] (fun v wr => ∃ (j : Nat) (P f : Int), Hid (Box wr w.heap.size (.bool n) (.bool i) (.bool s) (.int .i64 P) (.int .i64 f)) ∧ Hid (Box wr (w.heap.size + 1) (.bool false) (.bool false) (.bool false) (.int .i64 0) (.int .i64 0)) ∧ Hid (Below w.heap.size w wr) ∧ Hid (P = m * 2 ^ j ∧ f = e - j) ∧ j ≤ u ∧ 0 < P ∧ P < 16777216 ∧ -200 ≤ f ∧ f ≤ 105)
  (fun v wr => mea wr w.heap.size)
 case atStart =>
  refine ⟨0, m, e, (Box.new w _ _ _ _ _).alloc _, ?_, ((Below.refl _ _).alloc (Nat.le_refl _) _).alloc (by simp) _, ⟨by simp, by simp⟩, by omega, h0, h1, by omega, e1⟩
  have := Box.new (w.alloc (Obj.cells #[Value.bool n, Value.bool i, Value.bool s, Value.int IntKind.i64 m, Value.int IntKind.i64 e] 103)) (.bool false) (.bool false) (.bool false) (.int .i64 0) (.int .i64 0)
  rw [World.size_alloc] at this
  exact this
 case round =>
  obtain ⟨j, P, f, X, Y, BW, hP, hj, p0, p1, f0, f1⟩ := hrel
  obtain ⟨x0, x1, x2, x3, x4, g0, g1, g2, g3, g4, sx⟩ := X.out
  by_cases hc : P < 8388608
  · have hlt : j < u := pow_lt_of m j u h0 hu1 (by rw [← hP.out.1]; exact hc) hu
    have hn : Hid (2 * P = m * 2 ^ (j + 1)) := by have := pow_next m j; rw [← hP.out.1] at this; exact this
    have hf : Hid (f = e - j) := hP.out.2
    have M0 : Hid _ := mea_of x4
    clear hP
    go_wp2
    go_roundw
    case rel =>
     exact ⟨j + 1, 2 * P, f - 1, X.out.put34 _ _, Y.out.put34Other (by omega) _ _, (BW.out.setCell (Nat.le_refl _) _).setCell (Nat.le_refl _) _, ⟨hn.out, by have := hf.out; omega⟩, by omega, by omega, by omega, by have := hf.out; omega, by omega⟩
    case measure =>
     rw [M0.out, mea_of (X.out.put34 _ _).c4]; omega
  · have hju := pow_uniq m j u h0 (by rw [← hP.out.1]; omega) (by rw [← hP.out.1]; omega) hu hu1
    have hPv : Hid (P = m * 2 ^ u ∧ f = e - u) := by have := hP.out; rw [hju] at this; exact this
    obtain ⟨y0, y1, y2, y3, y4, k0, k1, k2, k3, k4, sy⟩ := Y.out
    clear hP hju
    go_wp2
    refine bodyPost_ret (v := .agg #[.bool n, .bool i, .bool s, .int .i64 P, .int .i64 f]) (by simp [results, Tryz.results81, go_sem, y0, y1, y2, y3, y4, sy]) rfl ⟨?_, ?_⟩
    · rw [hPv.out.1, hPv.out.2]
    · have := put5_below (w := wr) (A := w.heap.size) (B := w.heap.size + 1) (.bool n) (.bool i) (.bool s) (.int .i64 P) (.int .i64 f) (by omega)
      exact BW.out.trans this
end Go.Proofs.YtoihkljlekknkaaGreat
/-
  What tutorref.Div answers where one of the two is no number, infinite or a nought. Conditions: the patterns are 0 to 2^32 - 1.
-/
namespace Go.Proofs.YtoihkljlekknkaaGreat
open Go.RowKit
set_option linter.unusedVariables false
set_option linter.unusedSimpArgs false
theorem none_not_inf {a : Int} (h : isNone a = true) : isInf a = false := by
 have : 2139095040 < a % 2147483648 := by unfold isNone at h; simpa using h
 exact isInf_f (by omega)
theorem none_man {a : Int} (h : isNone a = true) : ofM a = 0 := by
 have : 2139095040 < a % 2147483648 := by unfold isNone at h; simpa using h
 unfold ofM; rw [if_neg (by omega)]
set_option maxHeartbeats 1000000 in
theorem rdiv_1a (a b : Int) (w : World) (h0 : 0 ≤ a) (h1 : a < 4294967296) (g0 : 0 ≤ b) (g1 : b < 4294967296) (na : isNone a = true) (ia : isInf a = false) (ea : ofM a = 0) (ib : isInf b = true) :
 Calls Tryz.prog 46 #[.int .i64 a, .int .i64 b] w fun e w' => e = .returned (.int .i64 (2143289344)) ∧ Below w.heap.size w w' := by
 go_enter Tryz.func46, Tryz.ntmps46
 go_wp2_with fail
 refine (of_any _ _ h0 h1).mono ?_
 rintro e w1 ⟨rfl, hb1⟩
 unfold numV
 have s1 := hb1.size
 have HB1 : Hid _ := hb1
 clear hb1
 go_wp2_with fail
 refine (of_any _ _ g0 g1).mono ?_
 rintro e w2 ⟨rfl, hb2⟩
 unfold numV
 obtain ⟨x0, x1, x2, x3, x4, f0, f1, f2, f3, f4, s2⟩ := box_cells hb2
 have HB2 : Hid _ := hb2
 clear hb2
 go_wp2_with fail
 go_ret
 exact ⟨rfl, ((HB1.out.alloc s1 _).trans (HB2.out.mono (by rw [World.size_alloc]; omega))).alloc (by omega) _⟩
set_option maxHeartbeats 1000000 in
theorem rdiv_1b (a b : Int) (w : World) (h0 : 0 ≤ a) (h1 : a < 4294967296) (g0 : 0 ≤ b) (g1 : b < 4294967296) (na : isNone a = true) (ia : isInf a = false) (ea : ofM a = 0) (ib : isInf b = false) (mb : (ofM b == 0) = true) :
 Calls Tryz.prog 46 #[.int .i64 a, .int .i64 b] w fun e w' => e = .returned (.int .i64 (2143289344)) ∧ Below w.heap.size w w' := by
 go_enter Tryz.func46, Tryz.ntmps46
 go_wp2_with fail
 refine (of_any _ _ h0 h1).mono ?_
 rintro e w1 ⟨rfl, hb1⟩
 unfold numV
 have s1 := hb1.size
 have HB1 : Hid _ := hb1
 clear hb1
 go_wp2_with fail
 refine (of_any _ _ g0 g1).mono ?_
 rintro e w2 ⟨rfl, hb2⟩
 unfold numV
 obtain ⟨x0, x1, x2, x3, x4, f0, f1, f2, f3, f4, s2⟩ := box_cells hb2
 have HB2 : Hid _ := hb2
 clear hb2
 go_wp2_with fail
 go_ret
 exact ⟨rfl, ((HB1.out.alloc s1 _).trans (HB2.out.mono (by rw [World.size_alloc]; omega))).alloc (by omega) _⟩
set_option maxHeartbeats 1000000 in
theorem rdiv_1c (a b : Int) (w : World) (h0 : 0 ≤ a) (h1 : a < 4294967296) (g0 : 0 ≤ b) (g1 : b < 4294967296) (na : isNone a = true) (ia : isInf a = false) (ea : ofM a = 0) (ib : isInf b = false) (mb : (ofM b == 0) = false) :
 Calls Tryz.prog 46 #[.int .i64 a, .int .i64 b] w fun e w' => e = .returned (.int .i64 (2143289344)) ∧ Below w.heap.size w w' := by
 go_enter Tryz.func46, Tryz.ntmps46
 go_wp2_with fail
 refine (of_any _ _ h0 h1).mono ?_
 rintro e w1 ⟨rfl, hb1⟩
 unfold numV
 have s1 := hb1.size
 have HB1 : Hid _ := hb1
 clear hb1
 go_wp2_with fail
 refine (of_any _ _ g0 g1).mono ?_
 rintro e w2 ⟨rfl, hb2⟩
 unfold numV
 obtain ⟨x0, x1, x2, x3, x4, f0, f1, f2, f3, f4, s2⟩ := box_cells hb2
 have HB2 : Hid _ := hb2
 clear hb2
 go_wp2_with fail
 go_ret
 exact ⟨rfl, ((HB1.out.alloc s1 _).trans (HB2.out.mono (by rw [World.size_alloc]; omega))).alloc (by omega) _⟩
set_option maxHeartbeats 1000000 in
theorem rdiv_2a (a b : Int) (w : World) (h0 : 0 ≤ a) (h1 : a < 4294967296) (g0 : 0 ≤ b) (g1 : b < 4294967296) (na : isNone a = false) (nb : isNone b = true) (ib : isInf b = false) (eb : ofM b = 0) (ia : isInf a = true) :
 Calls Tryz.prog 46 #[.int .i64 a, .int .i64 b] w fun e w' => e = .returned (.int .i64 (2143289344)) ∧ Below w.heap.size w w' := by
 go_enter Tryz.func46, Tryz.ntmps46
 go_wp2_with fail
 refine (of_any _ _ h0 h1).mono ?_
 rintro e w1 ⟨rfl, hb1⟩
 unfold numV
 have s1 := hb1.size
 have HB1 : Hid _ := hb1
 clear hb1
 go_wp2_with fail
 refine (of_any _ _ g0 g1).mono ?_
 rintro e w2 ⟨rfl, hb2⟩
 unfold numV
 obtain ⟨x0, x1, x2, x3, x4, f0, f1, f2, f3, f4, s2⟩ := box_cells hb2
 have HB2 : Hid _ := hb2
 clear hb2
 go_wp2_with fail
 go_ret
 exact ⟨rfl, ((HB1.out.alloc s1 _).trans (HB2.out.mono (by rw [World.size_alloc]; omega))).alloc (by omega) _⟩
set_option maxHeartbeats 1000000 in
theorem rdiv_2b (a b : Int) (w : World) (h0 : 0 ≤ a) (h1 : a < 4294967296) (g0 : 0 ≤ b) (g1 : b < 4294967296) (na : isNone a = false) (nb : isNone b = true) (ib : isInf b = false) (eb : ofM b = 0) (ia : isInf a = false) (ma : (ofM a == 0) = true) :
 Calls Tryz.prog 46 #[.int .i64 a, .int .i64 b] w fun e w' => e = .returned (.int .i64 (2143289344)) ∧ Below w.heap.size w w' := by
 go_enter Tryz.func46, Tryz.ntmps46
 go_wp2_with fail
 refine (of_any _ _ h0 h1).mono ?_
 rintro e w1 ⟨rfl, hb1⟩
 unfold numV
 have s1 := hb1.size
 have HB1 : Hid _ := hb1
 clear hb1
 go_wp2_with fail
 refine (of_any _ _ g0 g1).mono ?_
 rintro e w2 ⟨rfl, hb2⟩
 unfold numV
 obtain ⟨x0, x1, x2, x3, x4, f0, f1, f2, f3, f4, s2⟩ := box_cells hb2
 have HB2 : Hid _ := hb2
 clear hb2
 go_wp2_with fail
 go_ret
 exact ⟨rfl, ((HB1.out.alloc s1 _).trans (HB2.out.mono (by rw [World.size_alloc]; omega))).alloc (by omega) _⟩
set_option maxHeartbeats 1000000 in
theorem rdiv_2c (a b : Int) (w : World) (h0 : 0 ≤ a) (h1 : a < 4294967296) (g0 : 0 ≤ b) (g1 : b < 4294967296) (na : isNone a = false) (nb : isNone b = true) (ib : isInf b = false) (eb : ofM b = 0) (ia : isInf a = false) (ma : (ofM a == 0) = false) :
 Calls Tryz.prog 46 #[.int .i64 a, .int .i64 b] w fun e w' => e = .returned (.int .i64 (2143289344)) ∧ Below w.heap.size w w' := by
 go_enter Tryz.func46, Tryz.ntmps46
 go_wp2_with fail
 refine (of_any _ _ h0 h1).mono ?_
 rintro e w1 ⟨rfl, hb1⟩
 unfold numV
 have s1 := hb1.size
 have HB1 : Hid _ := hb1
 clear hb1
 go_wp2_with fail
 refine (of_any _ _ g0 g1).mono ?_
 rintro e w2 ⟨rfl, hb2⟩
 unfold numV
 obtain ⟨x0, x1, x2, x3, x4, f0, f1, f2, f3, f4, s2⟩ := box_cells hb2
 have HB2 : Hid _ := hb2
 clear hb2
 go_wp2_with fail
 go_ret
 exact ⟨rfl, ((HB1.out.alloc s1 _).trans (HB2.out.mono (by rw [World.size_alloc]; omega))).alloc (by omega) _⟩
set_option maxHeartbeats 1000000 in
theorem rdiv_3 (a b : Int) (w : World) (h0 : 0 ≤ a) (h1 : a < 4294967296) (g0 : 0 ≤ b) (g1 : b < 4294967296) (na : isNone a = false) (nb : isNone b = false) (ia : isInf a = true) (ib : isInf b = true) :
 Calls Tryz.prog 46 #[.int .i64 a, .int .i64 b] w fun e w' => e = .returned (.int .i64 (2143289344)) ∧ Below w.heap.size w w' := by
 go_enter Tryz.func46, Tryz.ntmps46
 go_wp2_with fail
 refine (of_any _ _ h0 h1).mono ?_
 rintro e w1 ⟨rfl, hb1⟩
 unfold numV
 have s1 := hb1.size
 have HB1 : Hid _ := hb1
 clear hb1
 go_wp2_with fail
 refine (of_any _ _ g0 g1).mono ?_
 rintro e w2 ⟨rfl, hb2⟩
 unfold numV
 obtain ⟨x0, x1, x2, x3, x4, f0, f1, f2, f3, f4, s2⟩ := box_cells hb2
 have HB2 : Hid _ := hb2
 clear hb2
 go_wp2_with fail
 go_ret
 exact ⟨rfl, ((HB1.out.alloc s1 _).trans (HB2.out.mono (by rw [World.size_alloc]; omega))).alloc (by omega) _⟩
set_option maxHeartbeats 1000000 in
theorem rdiv_4a (a b : Int) (w : World) (h0 : 0 ≤ a) (h1 : a < 4294967296) (g0 : 0 ≤ b) (g1 : b < 4294967296) (na : isNone a = false) (nb : isNone b = false) (ia : isInf a = true) (ib : isInf b = false) (mb : (ofM b == 0) = true) :
 Calls Tryz.prog 46 #[.int .i64 a, .int .i64 b] w fun e w' => e = .returned (.int .i64 (2139095040 + sg (isNeg a != isNeg b))) ∧ Below w.heap.size w w' := by
 go_enter Tryz.func46, Tryz.ntmps46
 go_wp2_with fail
 refine (of_any _ _ h0 h1).mono ?_
 rintro e w1 ⟨rfl, hb1⟩
 unfold numV
 have s1 := hb1.size
 have HB1 : Hid _ := hb1
 clear hb1
 go_wp2_with fail
 refine (of_any _ _ g0 g1).mono ?_
 rintro e w2 ⟨rfl, hb2⟩
 unfold numV
 obtain ⟨x0, x1, x2, x3, x4, f0, f1, f2, f3, f4, s2⟩ := box_cells hb2
 have HB2 : Hid _ := hb2
 clear hb2
 go_wp2_with (first | (go_at_call 72; refine (signed_any _ _ _ (by omega) (by omega)).mono ?_; rintro e w' ⟨rfl, rfl⟩))
 go_ret
 exact ⟨rfl, ((HB1.out.alloc s1 _).trans (HB2.out.mono (by rw [World.size_alloc]; omega))).alloc (by omega) _⟩
set_option maxHeartbeats 1000000 in
theorem rdiv_4b (a b : Int) (w : World) (h0 : 0 ≤ a) (h1 : a < 4294967296) (g0 : 0 ≤ b) (g1 : b < 4294967296) (na : isNone a = false) (nb : isNone b = false) (ia : isInf a = true) (ib : isInf b = false) (mb : (ofM b == 0) = false) :
 Calls Tryz.prog 46 #[.int .i64 a, .int .i64 b] w fun e w' => e = .returned (.int .i64 (2139095040 + sg (isNeg a != isNeg b))) ∧ Below w.heap.size w w' := by
 go_enter Tryz.func46, Tryz.ntmps46
 go_wp2_with fail
 refine (of_any _ _ h0 h1).mono ?_
 rintro e w1 ⟨rfl, hb1⟩
 unfold numV
 have s1 := hb1.size
 have HB1 : Hid _ := hb1
 clear hb1
 go_wp2_with fail
 refine (of_any _ _ g0 g1).mono ?_
 rintro e w2 ⟨rfl, hb2⟩
 unfold numV
 obtain ⟨x0, x1, x2, x3, x4, f0, f1, f2, f3, f4, s2⟩ := box_cells hb2
 have HB2 : Hid _ := hb2
 clear hb2
 go_wp2_with (first | (go_at_call 72; refine (signed_any _ _ _ (by omega) (by omega)).mono ?_; rintro e w' ⟨rfl, rfl⟩))
 go_ret
 exact ⟨rfl, ((HB1.out.alloc s1 _).trans (HB2.out.mono (by rw [World.size_alloc]; omega))).alloc (by omega) _⟩
set_option maxHeartbeats 1000000 in
theorem rdiv_5 (a b : Int) (w : World) (h0 : 0 ≤ a) (h1 : a < 4294967296) (g0 : 0 ≤ b) (g1 : b < 4294967296) (na : isNone a = false) (nb : isNone b = false) (ia : isInf a = false) (ib : isInf b = false) (ma : (ofM a == 0) = true) (mb : (ofM b == 0) = true) :
 Calls Tryz.prog 46 #[.int .i64 a, .int .i64 b] w fun e w' => e = .returned (.int .i64 (2143289344)) ∧ Below w.heap.size w w' := by
 go_enter Tryz.func46, Tryz.ntmps46
 go_wp2_with fail
 refine (of_any _ _ h0 h1).mono ?_
 rintro e w1 ⟨rfl, hb1⟩
 unfold numV
 have s1 := hb1.size
 have HB1 : Hid _ := hb1
 clear hb1
 go_wp2_with fail
 refine (of_any _ _ g0 g1).mono ?_
 rintro e w2 ⟨rfl, hb2⟩
 unfold numV
 obtain ⟨x0, x1, x2, x3, x4, f0, f1, f2, f3, f4, s2⟩ := box_cells hb2
 have HB2 : Hid _ := hb2
 clear hb2
 go_wp2_with fail
 go_ret
 exact ⟨rfl, ((HB1.out.alloc s1 _).trans (HB2.out.mono (by rw [World.size_alloc]; omega))).alloc (by omega) _⟩
set_option maxHeartbeats 1000000 in
theorem rdiv_6 (a b : Int) (w : World) (h0 : 0 ≤ a) (h1 : a < 4294967296) (g0 : 0 ≤ b) (g1 : b < 4294967296) (na : isNone a = false) (nb : isNone b = false) (ia : isInf a = false) (ib : isInf b = false) (ma : (ofM a == 0) = false) (mb : (ofM b == 0) = true) :
 Calls Tryz.prog 46 #[.int .i64 a, .int .i64 b] w fun e w' => e = .returned (.int .i64 (2139095040 + sg (isNeg a != isNeg b))) ∧ Below w.heap.size w w' := by
 go_enter Tryz.func46, Tryz.ntmps46
 go_wp2_with fail
 refine (of_any _ _ h0 h1).mono ?_
 rintro e w1 ⟨rfl, hb1⟩
 unfold numV
 have s1 := hb1.size
 have HB1 : Hid _ := hb1
 clear hb1
 go_wp2_with fail
 refine (of_any _ _ g0 g1).mono ?_
 rintro e w2 ⟨rfl, hb2⟩
 unfold numV
 obtain ⟨x0, x1, x2, x3, x4, f0, f1, f2, f3, f4, s2⟩ := box_cells hb2
 have HB2 : Hid _ := hb2
 clear hb2
 go_wp2_with (first | (go_at_call 72; refine (signed_any _ _ _ (by omega) (by omega)).mono ?_; rintro e w' ⟨rfl, rfl⟩))
 go_ret
 exact ⟨rfl, ((HB1.out.alloc s1 _).trans (HB2.out.mono (by rw [World.size_alloc]; omega))).alloc (by omega) _⟩
set_option maxHeartbeats 1000000 in
theorem rdiv_7a (a b : Int) (w : World) (h0 : 0 ≤ a) (h1 : a < 4294967296) (g0 : 0 ≤ b) (g1 : b < 4294967296) (na : isNone a = false) (nb : isNone b = false) (ia : isInf a = false) (ib : isInf b = true) (ma : (ofM a == 0) = true) :
 Calls Tryz.prog 46 #[.int .i64 a, .int .i64 b] w fun e w' => e = .returned (.int .i64 (sg (isNeg a != isNeg b))) ∧ Below w.heap.size w w' := by
 go_enter Tryz.func46, Tryz.ntmps46
 go_wp2_with fail
 refine (of_any _ _ h0 h1).mono ?_
 rintro e w1 ⟨rfl, hb1⟩
 unfold numV
 have s1 := hb1.size
 have HB1 : Hid _ := hb1
 clear hb1
 go_wp2_with fail
 refine (of_any _ _ g0 g1).mono ?_
 rintro e w2 ⟨rfl, hb2⟩
 unfold numV
 obtain ⟨x0, x1, x2, x3, x4, f0, f1, f2, f3, f4, s2⟩ := box_cells hb2
 have HB2 : Hid _ := hb2
 clear hb2
 go_wp2_with (first | (go_at_call 72; refine (signed_any _ _ _ (by omega) (by omega)).mono ?_; rintro e w' ⟨rfl, rfl⟩))
 go_ret
 exact ⟨rfl, ((HB1.out.alloc s1 _).trans (HB2.out.mono (by rw [World.size_alloc]; omega))).alloc (by omega) _⟩
set_option maxHeartbeats 1000000 in
theorem rdiv_7b (a b : Int) (w : World) (h0 : 0 ≤ a) (h1 : a < 4294967296) (g0 : 0 ≤ b) (g1 : b < 4294967296) (na : isNone a = false) (nb : isNone b = false) (ia : isInf a = false) (ib : isInf b = true) (ma : (ofM a == 0) = false) :
 Calls Tryz.prog 46 #[.int .i64 a, .int .i64 b] w fun e w' => e = .returned (.int .i64 (sg (isNeg a != isNeg b))) ∧ Below w.heap.size w w' := by
 go_enter Tryz.func46, Tryz.ntmps46
 go_wp2_with fail
 refine (of_any _ _ h0 h1).mono ?_
 rintro e w1 ⟨rfl, hb1⟩
 unfold numV
 have s1 := hb1.size
 have HB1 : Hid _ := hb1
 clear hb1
 go_wp2_with fail
 refine (of_any _ _ g0 g1).mono ?_
 rintro e w2 ⟨rfl, hb2⟩
 unfold numV
 obtain ⟨x0, x1, x2, x3, x4, f0, f1, f2, f3, f4, s2⟩ := box_cells hb2
 have HB2 : Hid _ := hb2
 clear hb2
 go_wp2_with (first | (go_at_call 72; refine (signed_any _ _ _ (by omega) (by omega)).mono ?_; rintro e w' ⟨rfl, rfl⟩))
 go_ret
 exact ⟨rfl, ((HB1.out.alloc s1 _).trans (HB2.out.mono (by rw [World.size_alloc]; omega))).alloc (by omega) _⟩
set_option maxHeartbeats 1000000 in
theorem rdiv_8 (a b : Int) (w : World) (h0 : 0 ≤ a) (h1 : a < 4294967296) (g0 : 0 ≤ b) (g1 : b < 4294967296) (na : isNone a = false) (nb : isNone b = false) (ia : isInf a = false) (ib : isInf b = false) (ma : (ofM a == 0) = true) (mb : (ofM b == 0) = false) :
 Calls Tryz.prog 46 #[.int .i64 a, .int .i64 b] w fun e w' => e = .returned (.int .i64 (sg (isNeg a != isNeg b))) ∧ Below w.heap.size w w' := by
 go_enter Tryz.func46, Tryz.ntmps46
 go_wp2_with fail
 refine (of_any _ _ h0 h1).mono ?_
 rintro e w1 ⟨rfl, hb1⟩
 unfold numV
 have s1 := hb1.size
 have HB1 : Hid _ := hb1
 clear hb1
 go_wp2_with fail
 refine (of_any _ _ g0 g1).mono ?_
 rintro e w2 ⟨rfl, hb2⟩
 unfold numV
 obtain ⟨x0, x1, x2, x3, x4, f0, f1, f2, f3, f4, s2⟩ := box_cells hb2
 have HB2 : Hid _ := hb2
 clear hb2
 go_wp2_with (first | (go_at_call 72; refine (signed_any _ _ _ (by omega) (by omega)).mono ?_; rintro e w' ⟨rfl, rfl⟩))
 go_ret
 exact ⟨rfl, ((HB1.out.alloc s1 _).trans (HB2.out.mono (by rw [World.size_alloc]; omega))).alloc (by omega) _⟩
end Go.Proofs.YtoihkljlekknkaaGreat
/-
  What tutorref.Div answers: the same as soft.Div. Conditions: the patterns are 0 to 2^32 - 1.
-/
namespace Go.Proofs.YtoihkljlekknkaaGreat
open Go.RowKit
set_option linter.unusedVariables false
set_option linter.unusedSimpArgs false
theorem short_ok (a : Int) (h : manI a ≠ 0) : 8388608 ≤ manI a * 2 ^ shortI a ∧ manI a * 2 ^ shortI a < 16777216 ∧ shortI a ≤ 24 := by
 have hm := manI_bd a
 have hb := bl_man a
 obtain ⟨n, hn⟩ : ∃ n : Nat, manI a = n := ⟨(manI a).toNat, by omega⟩
 have e : (n : Int) * 2 ^ shortI a = ((n * 2 ^ shortI a : Nat) : Int) := by push_cast; rfl
 have hs : shortI a = 24 - bl n := by unfold shortI; rw [hn, Int.toNat_natCast]
 rw [hn, Int.toNat_natCast] at hb
 have h1 := bl_lt n
 have h2 := bl_le n (by omega)
 rw [hn, e]
 have hp := pow_pos' (shortI a)
 have a1 := Nat.mul_lt_mul_of_pos_right h1 hp
 have a2 := Nat.mul_le_mul_right (2 ^ shortI a) h2
 rw [← Nat.pow_add] at a1 a2
 have hbl : bl n ≠ 0 := by unfold bl; split <;> omega
 rw [show bl n + shortI a = 24 from by omega] at a1
 rw [show bl n - 1 + shortI a = 23 from by omega] at a2
 omega
def DQ' (a b : Int) : Int :=
 RI (2 * (manI a * 2 ^ shortI a * 68719476736 / (manI b * 2 ^ shortI b)) + if manI a * 2 ^ shortI a * 68719476736 % (manI b * 2 ^ shortI b) = 0 then 0 else 1) (exI a - shortI a - (exI b - shortI b) - 37)
set_option maxHeartbeats 2000000 in
theorem rdiv_9 (a b : Int) (w : World) (h0 : 0 ≤ a) (h1 : a < 4294967296) (g0 : 0 ≤ b) (g1 : b < 4294967296) (na : isNone a = false) (nb : isNone b = false) (ia : isInf a = false) (ib : isInf b = false)
 (fa : a % 2147483648 < 2139095040) (fb : b % 2147483648 < 2139095040) (ma : manI a ≠ 0) (mb : manI b ≠ 0) :
 Calls Tryz.prog 46 #[.int .i64 a, .int .i64 b] w fun e w' => e = .returned (.int .i64 (DQ' a b + sg (isNeg a != isNeg b))) ∧ Below w.heap.size w w' := by
 have E1 := ofM_fin a fa
 have E2 := ofE_fin a fa
 have E3 := ofM_fin b fb
 have E4 := ofE_fin b fb
 have xa := exI_bd a
 have xb := exI_bd b
 have m1 := manI_bd a
 have m2 := manI_bd b
 have da : (manI a == 0) = false := by simpa using ma
 have db : (manI b == 0) = false := by simpa using mb
 obtain ⟨ua1, ua2, ua3⟩ := short_ok a ma
 obtain ⟨ub1, ub2, ub3⟩ := short_ok b mb
 have pa : 0 < manI a := by omega
 have pb : 0 < manI b := by omega
 unfold DQ'
 obtain ⟨N1, hN1⟩ : ∃ N, N = manI a * 2 ^ shortI a := ⟨_, rfl⟩
 obtain ⟨N2, hN2⟩ : ∃ N, N = manI b * 2 ^ shortI b := ⟨_, rfl⟩
 have UA1 : Hid _ := ua1
 have UA2 : Hid _ := ua2
 have UB1 : Hid _ := ub1
 have UB2 : Hid _ := ub2
 rw [← hN1] at ua1 ua2
 rw [← hN2] at ub1 ub2
 rw [← hN1, ← hN2]
 have R1 : manI a * 2 ^ shortI a = N1 := hN1.symm
 have R2 : manI b * 2 ^ shortI b = N2 := hN2.symm
 clear hN1 hN2 fa fb ma mb
 have q0 : 0 ≤ N1 * 68719476736 / N2 := Int.ediv_nonneg (by omega) (by omega)
 have q1 : N1 * 68719476736 / N2 ≤ N1 * 68719476736 := Int.ediv_le_self _ (by omega)
 have t1 : (N1 * 68719476736).tdiv N2 = N1 * 68719476736 / N2 := Int.tdiv_eq_ediv_of_nonneg (by omega)
 have t2 : (N1 * 68719476736).tmod N2 = N1 * 68719476736 % N2 := Int.tmod_eq_emod_of_nonneg (by omega)
 have np : 0 < N2 := by omega
 go_enter Tryz.func46, Tryz.ntmps46
 go_wp2_with fail
 refine (of_any _ _ h0 h1).mono ?_
 rintro e w1 ⟨rfl, hb1⟩
 unfold numV
 have s1 := hb1.size
 have HB1 : Hid _ := hb1
 clear hb1
 go_wp2_with fail
 refine (of_any _ _ g0 g1).mono ?_
 rintro e w2 ⟨rfl, hb2⟩
 unfold numV
 have X := (Box.new w1 _ _ _ _ _).keep hb2 (by simp)
 have HB2 : Hid _ := hb2
 have HX : Hid _ := X
 obtain ⟨x0, x1, x2, x3, x4, f0, f1, f2, f3, f4, s2⟩ := X
 clear hb2
 have t2' := s2
 go_wp2_with fail
 refine (full_any _ _ _ _ _ (shortI a) _ pa m1.2 UA1.out UA2.out xa.1 xa.2 ua3).mono ?_
 rintro e w3 ⟨rfl, hb3⟩
 have X := (HX.out.alloc _).keep hb3 (by rw [World.size_alloc]; have := HX.out.lt; omega)
 have Y := (Box.new w2 _ _ _ _ _).keep hb3 (by simp)
 have HB3 : Hid _ := hb3
 have HX3 : Hid _ := X
 have HY3 : Hid _ := Y
 clear hb3 x0 x1 x2 x3 x4 f0 f1 f2 f3 f4 s2 HX
 obtain ⟨x0, x1, x2, x3, x4, f0, f1, f2, f3, f4, s2⟩ := X
 obtain ⟨y0, y1, y2, y3, y4, k0, k1, k2, k3, k4, s3⟩ := Y
 have hne : w1.heap.size ≠ w2.heap.size := by omega
 go_wp2_with fail
 refine (full_any _ _ _ _ _ (shortI b) _ pb m2.2 UB1.out UB2.out xb.1 xb.2 ub3).mono ?_
 rintro e w4 ⟨rfl, hb4⟩
 have X := HX3.out.put (.bool false) (.bool false) (.bool (isNeg a)) (.int .i64 N1) (.int .i64 (exI a - shortI a))
 have Y := HY3.out.putOther hne (.bool false) (.bool false) (.bool (isNeg a)) (.int .i64 N1) (.int .i64 (exI a - shortI a))
 have B3 : Hid (Below w1.heap.size w3 _) := put5_below (.bool false) (.bool false) (.bool (isNeg a)) (.int .i64 N1) (.int .i64 (exI a - shortI a)) (Nat.le_refl _)
 have l3 := HX3.out.lt
 have l3' := HY3.out.lt
 have X := X.keep hb4 (by simp [World.size_setCell]; omega)
 have Y := Y.keep hb4 (by simp [World.size_setCell]; omega)
 have HB4 : Hid _ := hb4
 clear hb4 x0 x1 x2 x3 x4 f0 f1 f2 f3 f4 s2 HX3 HY3 l3 l3' y0 y1 y2 y3 y4 k0 k1 k2 k3 k4 s3
 obtain ⟨x0, x1, x2, x3, x4, f0, f1, f2, f3, f4, s2⟩ := X
 obtain ⟨y0, y1, y2, y3, y4, k0, k1, k2, k3, k4, s4⟩ := Y
 have BB : Hid (Below w.heap.size w (put5 w4 w2.heap.size (.bool false) (.bool false) (.bool (isNeg b)) (.int .i64 N2) (.int .i64 (exI b - shortI b)))) := by
  have b1 := HB1.out.alloc s1 (.cells #[Value.bool false, Value.bool false, Value.bool (isNeg a), Value.int IntKind.i64 (manI a), Value.int IntKind.i64 (exI a)] 103)
  have b2 := (b1.trans (HB2.out.mono (by rw [World.size_alloc]; omega))).alloc (by omega) (.cells #[Value.bool false, Value.bool false, Value.bool (isNeg b), Value.int IntKind.i64 (manI b), Value.int IntKind.i64 (exI b)] 103)
  have b3 := b2.trans (HB3.out.mono (by rw [World.size_alloc]; omega))
  have b4 := b3.trans (B3.out.mono (by omega))
  have b5 := b4.trans (HB4.out.mono (by simp [World.size_setCell]; have := b3.size; omega))
  exact b5.trans (put5_below _ _ _ _ _ (by omega))
 clear HB1 HB2 HB3 HB4 B3
 cases hrr : (N1 * 68719476736 % N2 != 0)
 · have hz : N1 * 68719476736 % N2 = 0 := by simpa using hrr
   have HZ : Hid _ := hz
   clear hz
   go_wp2_with (first | (go_at_call 82; refine (rshifted_any _ _ _ (by omega) (by omega) (by omega) (by omega)).mono ?_; rintro e w' ⟨rfl, rfl⟩) | (go_at_call 73; refine (round_any _ _ _ _ (by omega) (by omega) (by omega) (by omega)).mono ?_; rintro e w' ⟨rfl, rfl⟩))
   go_ret
   refine ⟨congrArg Ending.returned (congrArg (Value.int IntKind.i64) ?_), BB.out⟩
   rfl
 · have hz : ¬ N1 * 68719476736 % N2 = 0 := by simpa using hrr
   have HZ : Hid _ := hz
   clear hz
   go_wp2_with (first | (go_at_call 82; refine (rshifted_any _ _ _ (by omega) (by omega) (by omega) (by omega)).mono ?_; rintro e w' ⟨rfl, rfl⟩) | (go_at_call 73; refine (round_any _ _ _ _ (by omega) (by omega) (by omega) (by omega)).mono ?_; rintro e w' ⟨rfl, rfl⟩))
   go_ret
   refine ⟨congrArg Ending.returned (congrArg (Value.int IntKind.i64) ?_), BB.out⟩
   rfl
theorem stick_N (q r : Nat) : stick (q : Int) (r : Int) = (stickN q r : Nat) := by
 unfold stick stickN
 by_cases h : r = 0
 · rw [if_pos (by omega), if_pos h]
 · rw [if_neg (by omega), if_neg h]
   by_cases g : q % 2 = 0
   · rw [if_pos (by omega), if_pos g]; omega
   · rw [if_neg (by omega), if_neg g]
theorem mul_pow_cast (n u : Nat) : (n : Int) * 2 ^ u = ((n * 2 ^ u : Nat) : Int) := by push_cast; rfl
/-- both ways to a quotient come to one pattern -/
theorem DQ_same (a b : Int) (ma : manI a ≠ 0) (mb : manI b ≠ 0) : DQ' a b = DQ a b := by
 have m1 := manI_bd a
 have m2 := manI_bd b
 have xa := exI_bd a
 have xb := exI_bd b
 have hu := upI_bd a
 have ht := topI_bd a ma
 obtain ⟨a1, a2, a3⟩ := short_ok a ma
 obtain ⟨b1, b2, b3⟩ := short_ok b mb
 obtain ⟨A, hA⟩ : ∃ A : Nat, manI a = A := ⟨(manI a).toNat, by omega⟩
 obtain ⟨B, hB⟩ : ∃ B : Nat, manI b = B := ⟨(manI b).toNat, by omega⟩
 unfold DQ' DQ
 unfold topI at ht ⊢
 rw [hA] at a1 a2 ht m1
 rw [hB] at b1 b2 m2
 rw [hA, hB]
 rw [hA] at ma
 rw [hB] at mb
 rw [mul_pow_cast] at a1 a2 b1 b2
 rw [mul_pow_cast, mul_pow_cast, mul_pow_cast]
 rw [mul_pow_cast] at ht
 have hBp : 0 < B := by omega
 have k1 := div_one A B (upI a).toNat (exI a - upI a - exI b + 1000).toNat (exI a - exI b + 1000).toNat hBp (by
  rw [Nat.le_div_iff_mul_le hBp]
  refine Nat.le_trans (Nat.mul_le_mul_left _ (show B ≤ 16777216 by omega)) ?_
  omega) (by omega)
 have k2 := div_two A B (shortI a) (shortI b) (exI a - shortI a - (exI b - shortI b) - 37 + 1000).toNat (exI a - exI b + 1000).toNat hBp (by omega) (by omega) (by omega)
 have key := Rf_unique (mul_mono hBp) k2 k1
 unfold RI RR
 have e1 : stick (((A * 2 ^ (upI a).toNat : Nat) : Int) / (B : Int)) (((A * 2 ^ (upI a).toNat : Nat) : Int) % (B : Int)) = ((stickN (A * 2 ^ (upI a).toNat / B) (A * 2 ^ (upI a).toNat % B) : Nat) : Int) := by
  rw [← stick_N]; rfl
 rw [e1, Int.toNat_natCast, ← key]
 have e2 : (2 * (((A * 2 ^ shortI a : Nat) : Int) * 68719476736 / ((B * 2 ^ shortI b : Nat) : Int)) + if ((A * 2 ^ shortI a : Nat) : Int) * 68719476736 % ((B * 2 ^ shortI b : Nat) : Int) = 0 then 0 else 1).toNat =
  2 * (A * 2 ^ shortI a * 2 ^ 36 / (B * 2 ^ shortI b)) + if A * 2 ^ shortI a * 2 ^ 36 % (B * 2 ^ shortI b) = 0 then 0 else 1 := by
  rw [show (68719476736 : Int) = ((2 ^ 36 : Nat) : Int) from rfl, ← Int.natCast_mul, ← Int.natCast_ediv, ← Int.natCast_emod]
  generalize A * 2 ^ shortI a * 2 ^ 36 / (B * 2 ^ shortI b) = q
  generalize A * 2 ^ shortI a * 2 ^ 36 % (B * 2 ^ shortI b) = r
  split
  · rw [if_pos (by omega)]; omega
  · rw [if_neg (by omega)]; omega
 rw [e2]
theorem rdiv_any (a b : Int) (w : World) (h0 : 0 ≤ a) (h1 : a < 4294967296) (g0 : 0 ≤ b) (g1 : b < 4294967296) :
 Calls Tryz.prog 46 #[.int .i64 a, .int .i64 b] w fun e w' => e = .returned (.int .i64 (DIV a b)) ∧ Below w.heap.size w w' := by
 unfold DIV
 rw [sgn2_sg a b h0 h1 g0 g1, Int.add_comm (sg _) 2139095040, Int.add_comm (sg _) (DQ _ _)]
 cases na : isNone a
 · cases nb : isNone b
   · rw [if_neg (by simp)]
     cases ia : isInf a
     · rw [if_neg (by simp)]
       have hma := nil_man a na ia
       cases ib : isInf b
       · have hmb := nil_man b nb ib
         have n1 : ¬ 2139095040 < a % 2147483648 := by unfold isNone at na; simpa using na
         have n2 : ¬ 2139095040 < b % 2147483648 := by unfold isNone at nb; simpa using nb
         have i1 : ¬ a % 2147483648 = 2139095040 := by unfold isInf at ia; simpa using ia
         have i2 : ¬ b % 2147483648 = 2139095040 := by unfold isInf at ib; simpa using ib
         cases lb : isNil b
         · rw [if_neg (by simp)]
           rw [lb] at hmb
           cases la : isNil a
           · rw [if_neg (by simp)]
             have m1 := man_of_nil la na
             have m2 := man_of_nil lb nb
             rw [← DQ_same a b m1 m2]
             exact rdiv_9 a b w h0 h1 g0 g1 na nb ia ib (by omega) (by omega) m1 m2
           · rw [la] at hma; rw [if_pos (by simp)]; exact rdiv_8 a b w h0 h1 g0 g1 na nb ia ib hma hmb
         · rw [if_pos rfl]
           rw [lb] at hmb
           cases la : isNil a
           · rw [la] at hma; rw [if_neg (by simp)]; exact rdiv_6 a b w h0 h1 g0 g1 na nb ia ib hma hmb
           · rw [la] at hma; rw [if_pos rfl]; exact rdiv_5 a b w h0 h1 g0 g1 na nb ia ib hma hmb
       · rw [inf_not_nil ib, if_neg (by simp), if_pos (by simp)]
         cases la : isNil a
         · rw [la] at hma; exact rdiv_7b a b w h0 h1 g0 g1 na nb ia ib hma
         · rw [la] at hma; exact rdiv_7a a b w h0 h1 g0 g1 na nb ia ib hma
     · rw [if_pos rfl]
       cases ib : isInf b
       · have hmb := nil_man b nb ib
         rw [if_neg (by simp)]
         cases lb : isNil b
         · rw [lb] at hmb; exact rdiv_4b a b w h0 h1 g0 g1 na nb ia ib hmb
         · rw [lb] at hmb; exact rdiv_4a a b w h0 h1 g0 g1 na nb ia ib hmb
       · rw [if_pos rfl]; exact rdiv_3 a b w h0 h1 g0 g1 na nb ia ib
   · rw [if_pos (by simp)]
     have ib := none_not_inf nb
     have eb := none_man nb
     cases ia : isInf a
     · cases hm : (ofM a == 0)
       · exact rdiv_2c a b w h0 h1 g0 g1 na nb ib eb ia hm
       · exact rdiv_2b a b w h0 h1 g0 g1 na nb ib eb ia hm
     · exact rdiv_2a a b w h0 h1 g0 g1 na nb ib eb ia
 · rw [if_pos (by simp)]
   have ia := none_not_inf na
   have ea := none_man na
   cases ib : isInf b
   · cases hm : (ofM b == 0)
     · exact rdiv_1c a b w h0 h1 g0 g1 na ia ea ib hm
     · exact rdiv_1b a b w h0 h1 g0 g1 na ia ea ib hm
   · exact rdiv_1a a b w h0 h1 g0 g1 na ia ea ib
theorem MUL_bdQ (a b : Int) : 0 ≤ MUL a b ∧ MUL a b < 4294967296 := by
 have h1 := sgn2_or a b
 have h2 := RI_bd (manI a * manI b) (exI a + exI b)
 unfold MUL
 split
 · omega
 · split
   · split <;> omega
   · split
     · split <;> omega
     · omega
theorem DIV_bdQ (a b : Int) : 0 ≤ DIV a b ∧ DIV a b < 4294967296 := by
 have h1 := sgn2_or a b
 have h2 : 0 ≤ DQ a b ∧ DQ a b ≤ 2139095040 := RI_bd _ _
 unfold DIV
 split
 · omega
 · split
   · split <;> omega
   · split
     · split <;> omega
     · split <;> omega
end Go.Proofs.YtoihkljlekknkaaGreat
/-
  What soft.root answers: the greatest whole number whose square is no more. Condition: the number fits uint64.
-/
namespace Go.Proofs.YtoihkljlekknkaaGreat
open Go.RowKit
set_option linter.unusedVariables false
set_option linter.unusedSimpArgs false
/-- the root of a whole number, bit by bit -/
def isq : Nat → Nat → Nat → Nat
 | 0, _, r => r
 | j + 1, m, r => if (r + 2 ^ j) * (r + 2 ^ j) ≤ m then isq j m (r + 2 ^ j) else isq j m r
def rt (m : Nat) : Nat := isq 32 m 0
theorem isq_spec (j m r : Nat) (h1 : r * r ≤ m) (h2 : m < (r + 2 ^ j) * (r + 2 ^ j)) : isq j m r * isq j m r ≤ m ∧ m < (isq j m r + 1) * (isq j m r + 1) := by
 induction j generalizing r with
 | zero => exact ⟨h1, h2⟩
 | succ j ih =>
   unfold isq
   split
   · rename_i h
     refine ih _ h ?_
     rw [Nat.add_assoc, ← Nat.two_mul, Nat.mul_comm 2, ← Nat.pow_succ]; exact h2
   · rename_i h
     exact ih _ h1 (by omega)
theorem rt_spec (m : Nat) (h : m < 18446744073709551616) : rt m * rt m ≤ m ∧ m < (rt m + 1) * (rt m + 1) :=
 isq_spec 32 m 0 (by omega) (by simpa using h)
theorem rt_unique (m r : Nat) (h : m < 18446744073709551616) (h1 : r * r ≤ m) (h2 : m < (r + 1) * (r + 1)) : r = rt m := by
 obtain ⟨k1, k2⟩ := rt_spec m h
 have a1 : r < rt m + 1 := by
  refine Nat.lt_of_not_le fun g => ?_
  have := Nat.mul_self_le_mul_self g; omega
 have a2 : rt m < r + 1 := by
  refine Nat.lt_of_not_le fun g => ?_
  have := Nat.mul_self_le_mul_self g; omega
 omega
theorem rt_int (m r : Int) (h0 : 0 ≤ m) (h : m < 18446744073709551616) (hr : 0 ≤ r) (h1 : r * r ≤ m) (h2 : m < (r + 1) * (r + 1)) : r = rt m.toNat := by
 obtain ⟨a, rfl⟩ : ∃ a : Nat, m = a := ⟨m.toNat, by omega⟩
 obtain ⟨b, rfl⟩ : ∃ b : Nat, r = b := ⟨r.toNat, by omega⟩
 rw [Int.toNat_natCast, rt_unique a b (by omega) (by exact_mod_cast h1) (by exact_mod_cast h2)]
theorem sq_step (r b m : Int) (h : m < (r + 2 * b) * (r + 2 * b)) : m < (r + b + b) * (r + b + b) := by
 rw [show r + b + b = r + 2 * b from by omega]; exact h
set_option maxHeartbeats 1000000 in
theorem root_any (m : Int) (w : World) (h0 : 0 ≤ m) (h1 : m < 18446744073709551616) :
 Calls Tryz.prog 101 #[.int .u64 m] w fun e w' => e = .returned (.int .u64 (rt m.toNat)) ∧ w' = w := by
 go_enter Tryz.func101, Tryz.ntmps101
 go_wp2
 go_loop [3, 4] (fun rv bv => ∃ r c : Int, rv = .int .u64 r ∧ bv = .int .u64 (c / 2) ∧ 0 ≤ r ∧ 1 ≤ c ∧ r + c ≤ 4294967296 ∧ Hid (∃ j : Nat, c = 2 ^ j) ∧ Hid (r * r ≤ m ∧ m < (r + c) * (r + c))) (fun _ bv => (intOf bv).toNat)
 case atStart => exact ⟨0, 4294967296, rfl, rfl, by omega, by omega, by omega, ⟨32, rfl⟩, ⟨by omega, by show m < (0 + 4294967296) * (0 + 4294967296); omega⟩⟩
 case round =>
  obtain ⟨r, c, rfl, rfl, r0, c0, rc, hj, hm⟩ := hrel
  by_cases hc : 0 < c / 2
  · have hev : ∃ b : Int, c = 2 * b ∧ ∃ j : Nat, b = 2 ^ j := by
     obtain ⟨j, hj⟩ := hj.out
     cases j with
     | zero => simp at hj; omega
     | succ j => exact ⟨2 ^ j, by rw [hj]; rw [show (2 : Int) ^ (j + 1) = 2 ^ j * 2 from rfl]; omega, j, rfl⟩
    obtain ⟨b, hb, hbj⟩ := hev
    subst hb
    have hb2 : 2 * b / 2 = b := by omega
    have b0 : 0 < b := by omega
    have P := Int.mul_nonneg (show 0 ≤ r + b by omega) (show 0 ≤ r + b by omega)
    have P2 := Int.mul_le_mul (show r + b ≤ 4294967295 by omega) (show r + b ≤ 4294967295 by omega) (by omega) (by omega)
    have T := u64_small ((r + b) * (r + b)) P (by omega)
    obtain ⟨S, hS⟩ : ∃ S, S = (r + b) * (r + b) := ⟨_, rfl⟩
    have T' := T.trans hS.symm
    have hS' : Hid _ := hS
    have hSn : 0 ≤ S := by omega
    have hS2 : S < 18446744073709551616 := by omega
    have HBJ : Hid _ := hbj
    clear T hS P P2 hc hbj hj
    by_cases ht : S ≤ m
    · go_wp2
      go_round
      case rel => exact ⟨r + b, b, by simp, by simp, by omega, by omega, by omega, HBJ.out, ⟨by rw [← hS'.out]; exact ht, sq_step r b m hm.out.2⟩⟩
      case measure => simp [intOf]; omega
    · go_wp2
      go_round
      case rel => exact ⟨r, b, by simp, by simp, by omega, by omega, by omega, HBJ.out, ⟨hm.out.1, by rw [← hS'.out]; omega⟩⟩
      case measure => simp [intOf]; omega
  · have c1 : c = 1 := by omega
    subst c1
    have R : Hid _ := rt_int m r h0 h1 r0 hm.out.1 hm.out.2
    clear hm hj
    go_wp2
    go_ret
    refine ⟨congrArg Ending.returned (congrArg (Value.int IntKind.u64) ?_), rfl⟩
    exact R.out
end Go.Proofs.YtoihkljlekknkaaGreat
/-
  What tutorref.root, nearest, place and FromInt answer. Conditions: as each theorem names them.
-/
namespace Go.Proofs.YtoihkljlekknkaaGreat
open Go.RowKit
set_option linter.unusedVariables false
set_option linter.unusedSimpArgs false
set_option maxHeartbeats 1000000 in
theorem rroot_any (m : Int) (w : World) (h0 : 0 ≤ m) (h1 : m < 4611686018427387904) :
 Calls Tryz.prog 83 #[.int .i64 m] w fun e w' => e = .returned (.int .i64 (rt m.toNat)) ∧ w' = w := by
 go_enter Tryz.func83, Tryz.ntmps83
 go_wp2
 go_loop [3, 4] (fun lv hv => ∃ l h : Int, lv = .int .i64 l ∧ hv = .int .i64 h ∧ 0 ≤ l ∧ l < h ∧ h ≤ 2147483648 ∧ Hid (l * l ≤ m ∧ m < h * h)) (fun lv hv => (intOf hv - intOf lv).toNat)
 case atStart => exact ⟨0, 2147483648, rfl, rfl, by omega, by omega, by omega, ⟨by omega, by show m < 2147483648 * 2147483648; omega⟩⟩
 case round =>
  obtain ⟨l, h, rfl, rfl, l0, lh, h2, hm⟩ := hrel
  by_cases hc : 1 < h - l
  · obtain ⟨c, hcc⟩ : ∃ c, c = (l + h) / 2 := ⟨_, rfl⟩
    have c1 : l < c := by omega
    have c2 : c < h := by omega
    have P := Int.mul_nonneg (show 0 ≤ c by omega) (show 0 ≤ c by omega)
    have P2 := Int.mul_le_mul (show c ≤ 2147483647 by omega) (show c ≤ 2147483647 by omega) (by omega) (by omega)
    obtain ⟨S, hS⟩ : ∃ S, S = c * c := ⟨_, rfl⟩
    have T' := w64 S (by omega)
    have HS : Hid _ := hS
    have hc2 : (l + h) / 2 = c := hcc.symm
    have hSS : c * c = S := hS.symm
    clear hS hcc P P2
    by_cases ht : S ≤ m
    · go_wp2
      go_round
      case rel => exact ⟨c, h, int_eq hc2, rfl, by omega, by omega, by omega, ⟨by rw [← HS.out]; exact ht, hm.out.2⟩⟩
      case measure => simp [intOf]; omega
    · go_wp2
      go_round
      case rel => exact ⟨l, c, rfl, int_eq hc2, by omega, by omega, by omega, ⟨hm.out.1, by rw [← HS.out]; omega⟩⟩
      case measure => simp [intOf]; omega
  · have e1 : h = l + 1 := by omega
    subst e1
    have R : Hid _ := rt_int m l h0 (by omega) l0 hm.out.1 hm.out.2
    clear hm
    go_wp2
    go_ret
    refine ⟨congrArg Ending.returned (congrArg (Value.int IntKind.i64) ?_), rfl⟩
    exact R.out
set_option maxHeartbeats 1000000 in
theorem nearest_up (m e : Int) (w : World) (h0 : 0 ≤ m) (h1 : m < 16777216) (e0 : 0 ≤ e) (e1 : e ≤ 8) :
 Calls Tryz.prog 136 #[.int .i64 m, .int .i64 e] w fun r w' => r = .returned (.int .i64 (m * 2 ^ e.toNat)) ∧ w' = w := by
 go_enter Tryz.func136, Tryz.ntmps136
 go_wp2_with (first | (go_at_call 82; refine (rshifted_any _ _ _ (by omega) (by omega) (by omega) (by omega)).mono ?_; rintro e w' ⟨rfl, rfl⟩))
 go_ret
 exact ⟨rfl, rfl⟩
set_option maxHeartbeats 2000000 in
theorem nearest_down (m e : Int) (w : World) (h0 : 0 ≤ m) (h1 : m < 16777216) (e0 : e < 0) (e1 : -149 ≤ e) :
 Calls Tryz.prog 136 #[.int .i64 m, .int .i64 e] w fun r w' => r = .returned (.int .i64 (rne m.toNat (-e).toNat)) ∧ w' = w := by
 go_enter Tryz.func136, Tryz.ntmps136
 go_wp2
 go_loop [0, 1, 5, 6] (fun mv ev iv lv => ∃ (k : Nat) (f : Int), mv = .int .i64 (m.toNat / 2 ^ k : Nat) ∧ ev = .int .i64 f ∧ iv = .bool (midB m.toNat k) ∧ lv = .bool (lessB m.toNat k) ∧ f ≤ 0 ∧ -149 ≤ f ∧ Hid (f = e + k)) (fun _ ev _ _ => (0 - intOf ev).toNat)
 case atStart => exact ⟨0, e, by simp; omega, rfl, rfl, by simp [lessB, Nat.mod_one], by omega, by omega, by show e = e + 0; omega⟩
 case round =>
  obtain ⟨k, f, rfl, rfl, rfl, rfl, f0, f1, hf⟩ := hrel
  have N1 : Hid _ := mid_next m.toNat k
  have N2 : Hid _ := div_next m.toNat k
  have N3 : Hid _ := lessB_succ m.toNat k
  have N5 : Hid _ := rne_bits m.toNat k
  have Mb : m.toNat / 2 ^ k < 16777216 := Nat.lt_of_le_of_lt (Nat.div_le_self _ _) (by omega)
  obtain ⟨M, hM⟩ : ∃ M, M = m.toNat / 2 ^ k := ⟨_, rfl⟩
  obtain ⟨I, hI⟩ : ∃ I, I = midB m.toNat k := ⟨_, rfl⟩
  obtain ⟨L, hL⟩ : ∃ L, L = lessB m.toNat k := ⟨_, rfl⟩
  rw [← hM] at N1 N2 N5 Mb ⊢
  rw [← hI] at N3 N5 ⊢
  rw [← hL] at N3 N5 ⊢
  clear hM hI hL
  obtain ⟨Mi, hMi⟩ : ∃ Mi : Int, Mi = M := ⟨_, rfl⟩
  have m0 : 0 ≤ Mi := by omega
  have m9 : Mi < 16777216 := by omega
  by_cases hc : f < 0
  · rw [← hMi] at N1 N2 ⊢
    clear hMi Mb N5
    cases L <;> cases I
    all_goals
     go_wp2
     go_round
     case rel => exact ⟨k + 1, f + 1, int_eq N2.out, rfl, congrArg _ N1.out, congrArg _ N3.out.symm, by omega, by omega, by have := hf.out; show f + 1 = e + ((k + 1 : Nat) : Int); omega⟩
     case measure => simp [intOf]; omega
  · have hk : (-e).toNat = k := by have := hf.out; omega
    clear N1 N2 N3
    replace N5 : rne m.toNat k = _ := N5.out
    rw [← hk] at N5
    clear hk
    cases I
    · have R : Hid ((rne m.toNat (-e).toNat : Int) = Mi) := by show _ = _; rw [N5, hMi]; simp
      rw [← hMi]
      clear N5 hMi Mb
      go_wp2
      go_ret
      refine ⟨congrArg Ending.returned (congrArg (Value.int IntKind.i64) ?_), rfl⟩
      rw [R.out]
    · by_cases hu : L = true ∨ M % 2 = 1
      · rw [if_pos ⟨rfl, hu⟩] at N5
        have R : Hid ((rne m.toNat (-e).toNat : Int) = Mi + 1) := by show _ = _; rw [N5, hMi]; omega
        replace hu : L = true ∨ Mi % 2 = 1 := hu.imp_right fun h => by omega
        rw [← hMi]
        clear N5 hMi Mb
        cases L
        · have o1 : (Mi % 2 == 1) = true := by simp only [beq_iff_eq]; simpa using hu
          clear hu
          go_wp2
          go_ret
          refine ⟨congrArg Ending.returned (congrArg (Value.int IntKind.i64) ?_), rfl⟩
          rw [R.out]
        · go_wp2
          go_ret
          refine ⟨congrArg Ending.returned (congrArg (Value.int IntKind.i64) ?_), rfl⟩
          rw [R.out]
      · rw [if_neg (fun h => hu h.2)] at N5
        have R : Hid ((rne m.toNat (-e).toNat : Int) = Mi) := by show _ = _; rw [N5, hMi]; simp
        have l1 : L = false := by
         cases L
         · rfl
         · exact absurd (.inl rfl) hu
        subst l1
        have o1 : (Mi % 2 == 1) = false := by simp only [beq_eq_false_iff_ne, ne_eq]; omega
        rw [← hMi]
        clear N5 hMi Mb hu
        go_wp2
        go_ret
        refine ⟨congrArg Ending.returned (congrArg (Value.int IntKind.i64) ?_), rfl⟩
        rw [R.out]
set_option maxHeartbeats 400000 in
theorem rplace_any (a : Int) (w : World) (h0 : 0 ≤ a) (h1 : a < 4294967296) :
 Calls Tryz.prog 111 #[.int .i64 a] w fun e w' => e = .returned (.int .i64 (plc a)) ∧ w' = w := by
 unfold plc
 by_cases h : 2147483648 ≤ a
 · rw [if_pos h]
   go_enter Tryz.func111, Tryz.ntmps111
   go_wp2
   go_ret
   exact ⟨ret_int (by omega), rfl⟩
 · rw [if_neg h]
   go_enter Tryz.func111, Tryz.ntmps111
   go_wp2
   go_ret
   exact ⟨rfl, rfl⟩
set_option maxHeartbeats 400000 in
theorem rfromInt_any (n : Int) (w : World) (h0 : -9223372036854775808 ≤ n) (h1 : n ≤ 9223372036854775807) :
 Calls Tryz.prog 40 #[.int .i64 n] w fun e w' => e = .returned (.int .i64 (FROMI n)) ∧ w' = w := by
 unfold FROMI
 by_cases h : n < 0
 · rw [if_pos h]
   by_cases hm : n = -9223372036854775808
   · subst hm
     have e : Hid (RI 4611686018427387904 1 = RI 9223372036854775808 0) := (RI_same 4611686018427387904 1 9223372036854775808 0 (by omega) 1 (by omega) (by omega) (by omega)).symm
     go_enter Tryz.func40, Tryz.ntmps40
     go_wp2_with (first | (go_at_call 73; refine (round_any _ _ _ _ (by omega) (by omega) (by omega) (by omega)).mono ?_; rintro e w' ⟨rfl, rfl⟩))
     go_ret
     refine ⟨congrArg Ending.returned (congrArg (Value.int IntKind.i64) ?_), rfl⟩
     rw [show (- -9223372036854775808 : Int) = 9223372036854775808 from rfl, ← e.out, Int.add_comm]; rfl
   · have hm' : (n == -9223372036854775808) = false := by simpa using hm
     go_enter Tryz.func40, Tryz.ntmps40
     go_wp2_with (first | (go_at_call 73; refine (round_any _ _ _ _ (by omega) (by omega) (by omega) (by omega)).mono ?_; rintro e w' ⟨rfl, rfl⟩))
     go_ret
     refine ⟨congrArg Ending.returned (congrArg (Value.int IntKind.i64) ?_), rfl⟩
     rw [Int.add_comm]; rfl
 · rw [if_neg h]
   go_enter Tryz.func40, Tryz.ntmps40
   go_wp2_with (first | (go_at_call 73; refine (round_any _ _ _ _ (by omega) (by omega) (by omega) (by omega)).mono ?_; rintro e w' ⟨rfl, rfl⟩))
   go_ret
   refine ⟨congrArg Ending.returned (congrArg (Value.int IntKind.i64) ?_), rfl⟩
   simp [sg]
theorem wh_near (a : Int) (h : exI a < 0) : WH (manI a) (exI a) = (rne (manI a).toNat (-exI a).toNat : Nat) := by unfold WH; rw [if_pos h]
theorem wh_mid (a : Int) (h : ¬ exI a < 0) (h8 : exI a ≤ 8) : WH (manI a) (exI a) = min (manI a * 2 ^ (exI a).toNat) 2147483648 := by
 unfold WH; rw [if_neg h, show (min (exI a) 8).toNat = (exI a).toNat from by omega]
theorem wh_far (a : Int) (h8 : 8 < exI a) : WH (manI a) (exI a) = 2147483648 := by
 have : 8388608 ≤ manI a := by unfold exI at h8; unfold manI; split <;> (split at h8 <;> omega)
 unfold WH; rw [if_neg (by omega), show (min (exI a) 8).toNat = 8 from by omega, show (2 : Int) ^ 8 = 256 from rfl]; omega
theorem wh_inf (a : Int) (h : a % 2147483648 = 2139095040) : WH (manI a) (exI a) = 2147483648 := by
 apply wh_far
 unfold exI; rw [if_neg (by omega)]; omega
end Go.Proofs.YtoihkljlekknkaaGreat
/-
  What soft.Sqrt answers, for every pattern: P3 of the document. No condition.
-/
namespace Go.Proofs.YtoihkljlekknkaaGreat
open Go.RowKit
set_option linter.unusedVariables false
set_option linter.unusedSimpArgs false
/-- how far a number is shifted ahead of its root: its power must be even -/
def evI (a : Int) : Int := if (exI a - upI a) % 2 = 0 then upI a else upI a - 1
def sqM (a : Int) : Int := manI a * 2 ^ (evI a).toNat
def SQ (a : Int) : Int := RI (stick (rt (sqM a).toNat) (sqM a - rt (sqM a).toNat * rt (sqM a).toNat)) ((exI a - evI a) / 2)
/-- P3 -/
def SQRT (a : Int) : Int :=
 if isNil a = true then a else if isNone a = true ∨ 2147483648 ≤ a then 2143289344 else if isInf a = true then a else SQ a
theorem sqM_bd (a : Int) (h : manI a ≠ 0) : 4611686018427387904 ≤ sqM a ∧ sqM a < 18446744073709551616 := by
 have hu := upI_bd a
 have ht := topI_bd a h
 unfold sqM evI
 split
 · exact ⟨by unfold topI at ht; omega, by unfold topI at ht; omega⟩
 · unfold topI at ht
   have e : (upI a).toNat = (upI a - 1).toNat + 1 := by omega
   rw [e, show (2 : Int) ^ ((upI a - 1).toNat + 1) = 2 ^ (upI a - 1).toNat * 2 from rfl, ← Int.mul_assoc] at ht
   omega
theorem rt_bd (m : Int) (h0 : 0 ≤ m) (h : m < 18446744073709551616) : (rt m.toNat : Int) < 4294967296 ∧ (rt m.toNat : Int) * rt m.toNat ≤ m := by
 obtain ⟨a, b⟩ := rt_spec m.toNat (by omega)
 have : rt m.toNat < 4294967296 := by
  refine Nat.lt_of_not_le fun g => ?_
  have := Nat.mul_self_le_mul_self g; omega
 refine ⟨by omega, ?_⟩
 have : ((rt m.toNat * rt m.toNat : Nat) : Int) ≤ m := by omega
 exact_mod_cast this
set_option maxHeartbeats 1000000 in
theorem sqrt_fin (a : Int) (w : World) (h0 : 0 ≤ a) (h1 : a < 2147483648) (nn : isNone a = false) (ni : isInf a = false) (nl : isNil a = false) (ma : manI a ≠ 0) :
 Calls Tryz.prog 62 #[.int .u32 a] w fun e w' => e = .returned (.int .u32 (SQ a)) ∧ w' = w := by
 have h2 : a < 4294967296 := by omega
 have s1 := and_sign a h0 h2
 have e1 : a / 2147483648 * 2147483648 = 0 := by omega
 rw [e1] at s1
 clear e1
 have hbl := bl_man a
 have m1 := manI_bd a
 have x1 := exI_bd a
 have hM := sqM_bd a ma
 have hu : upI a = 64 - bl (manI a).toNat := rfl
 by_cases hev : (exI a - upI a) % 2 = 0
 · have he : evI a = 64 - bl (manI a).toNat := by unfold evI; rw [if_pos hev, hu]
   have t : ((exI a - (64 - (bl (manI a).toNat : Int))).tmod 2 != 0) = false := by
    rw [← hu, bne_eq_false_iff_eq]
    exact Int.tmod_eq_zero_of_dvd (Int.dvd_of_emod_eq_zero hev)
   have T : IntKind.u64.wrap (manI a * 2 ^ (64 - bl (manI a).toNat)) = sqM a := by
    have e : sqM a = manI a * 2 ^ (64 - bl (manI a).toNat) := by unfold sqM; rw [he, show (64 - (bl (manI a).toNat : Int)).toNat = 64 - bl (manI a).toNat from by omega]
    rw [← e]; exact u64_small (sqM a) (by omega) (by omega)
   have D : (exI a - (64 - (bl (manI a).toNat : Int))).tdiv 2 = (exI a - evI a) / 2 := by
    rw [he, ← hu]
    have := Int.tmod_add_mul_tdiv (exI a - upI a) 2
    have := Int.tmod_def (exI a - upI a) 2
    have b1 := Int.lt_tmod_of_pos (exI a - upI a) (show (0 : Int) < 2 by decide)
    have b2 := Int.tmod_lt_of_pos (exI a - upI a) (show (0 : Int) < 2 by decide)
    omega
   obtain ⟨E, hE⟩ : ∃ E, E = (exI a - evI a) / 2 := ⟨_, rfl⟩
   have eb : -300 ≤ E ∧ E ≤ 300 := by omega
   unfold SQ
   rw [← hE] at D ⊢
   clear hE hev hu he
   obtain ⟨M, hMM⟩ : ∃ M, M = sqM a := ⟨_, rfl⟩
   rw [← hMM] at hM T ⊢
   clear hMM
   obtain ⟨q1, q2⟩ := rt_bd M (by omega) hM.2
   obtain ⟨R, hR⟩ : ∃ R : Int, R = (rt M.toNat : Nat) := ⟨_, rfl⟩
   have r0 : 0 ≤ R := by omega
   rw [← hR] at q1 q2 ⊢
   replace hR := hR.symm
   obtain ⟨S, hS⟩ : ∃ S, S = R * R := ⟨_, rfl⟩
   have sn := Int.mul_nonneg r0 r0
   have TS := u64_small (R * R) sn (by omega)
   rw [← hS] at q2 sn ⊢
   replace TS := TS.trans hS.symm
   have O := or_bit R (M - S) r0 (by omega) (by omega)
   have sb := stick_bd R (M - S) r0 (by omega)
   have TD := u64_small (M - S) (by omega) (by omega)
   clear hS
   go_enter Tryz.func62, Tryz.ntmps62
   go_wp2_with (first | (go_at_call 95; refine (nil_any _ _ (by assumption) (by assumption)).mono ?_; rintro e w' ⟨rfl, rfl⟩) | (go_at_call 91; refine (none_any _ _ (by assumption) (by assumption)).mono ?_; rintro e w' ⟨rfl, rfl⟩) | (go_at_call 92; refine (inf_any _ _ (by assumption) (by assumption)).mono ?_; rintro e w' ⟨rfl, rfl⟩) | (go_at_call 99; refine (parts_any _ _ (by assumption) (by assumption)).mono ?_; rintro e w' ⟨rfl, rfl⟩) | (go_at_call 100; refine (lz64_any _ _ (by omega) (by omega)).mono ?_; rintro e w' ⟨rfl, rfl⟩) | (go_at_call 101; refine (root_any _ _ (by omega) (by omega)).mono ?_; rintro e w' ⟨rfl, rfl⟩) | (go_at_call 102; refine (sticky_any _ _ (by omega) (by omega)).mono ?_; rintro e w' ⟨rfl, rfl⟩) | (go_at_call 97; refine (rounded_any _ _ _ _ (by omega) (by omega) (by omega) (by omega) (by omega)).mono ?_; rintro e w' ⟨rfl, rfl⟩))
   go_ret
   refine ⟨congrArg Ending.returned (congrArg (Value.int IntKind.u32) ?_), rfl⟩
   rfl
 · have he : evI a = 64 - bl (manI a).toNat - 1 := by unfold evI; rw [if_neg hev, hu]
   have t : ((exI a - (64 - (bl (manI a).toNat : Int))).tmod 2 != 0) = true := by
    rw [← hu, bne_iff_ne]
    have := Int.tmod_add_mul_tdiv (exI a - upI a) 2
    omega
   have T : IntKind.u64.wrap (manI a * 2 ^ (64 - bl (manI a).toNat - 1)) = sqM a := by
    have e : sqM a = manI a * 2 ^ (64 - bl (manI a).toNat - 1) := by unfold sqM; rw [he, show (64 - (bl (manI a).toNat : Int) - 1).toNat = 64 - bl (manI a).toNat - 1 from by omega]
    rw [← e]; exact u64_small (sqM a) (by omega) (by omega)
   have D : (exI a - (64 - (bl (manI a).toNat : Int) - 1)).tdiv 2 = (exI a - evI a) / 2 := by
    rw [← he]
    have := Int.tmod_add_mul_tdiv (exI a - evI a) 2
    have b1 := Int.lt_tmod_of_pos (exI a - evI a) (show (0 : Int) < 2 by decide)
    have b2 := Int.tmod_lt_of_pos (exI a - evI a) (show (0 : Int) < 2 by decide)
    omega
   obtain ⟨E, hE⟩ : ∃ E, E = (exI a - evI a) / 2 := ⟨_, rfl⟩
   have eb : -300 ≤ E ∧ E ≤ 300 := by omega
   unfold SQ
   rw [← hE] at D ⊢
   clear hE hev hu he
   obtain ⟨M, hMM⟩ : ∃ M, M = sqM a := ⟨_, rfl⟩
   rw [← hMM] at hM T ⊢
   clear hMM
   obtain ⟨q1, q2⟩ := rt_bd M (by omega) hM.2
   obtain ⟨R, hR⟩ : ∃ R : Int, R = (rt M.toNat : Nat) := ⟨_, rfl⟩
   have r0 : 0 ≤ R := by omega
   rw [← hR] at q1 q2 ⊢
   replace hR := hR.symm
   obtain ⟨S, hS⟩ : ∃ S, S = R * R := ⟨_, rfl⟩
   have sn := Int.mul_nonneg r0 r0
   have TS := u64_small (R * R) sn (by omega)
   rw [← hS] at q2 sn ⊢
   replace TS := TS.trans hS.symm
   have O := or_bit R (M - S) r0 (by omega) (by omega)
   have sb := stick_bd R (M - S) r0 (by omega)
   have TD := u64_small (M - S) (by omega) (by omega)
   clear hS
   go_enter Tryz.func62, Tryz.ntmps62
   go_wp2_with (first | (go_at_call 95; refine (nil_any _ _ (by assumption) (by assumption)).mono ?_; rintro e w' ⟨rfl, rfl⟩) | (go_at_call 91; refine (none_any _ _ (by assumption) (by assumption)).mono ?_; rintro e w' ⟨rfl, rfl⟩) | (go_at_call 92; refine (inf_any _ _ (by assumption) (by assumption)).mono ?_; rintro e w' ⟨rfl, rfl⟩) | (go_at_call 99; refine (parts_any _ _ (by assumption) (by assumption)).mono ?_; rintro e w' ⟨rfl, rfl⟩) | (go_at_call 100; refine (lz64_any _ _ (by omega) (by omega)).mono ?_; rintro e w' ⟨rfl, rfl⟩) | (go_at_call 101; refine (root_any _ _ (by omega) (by omega)).mono ?_; rintro e w' ⟨rfl, rfl⟩) | (go_at_call 102; refine (sticky_any _ _ (by omega) (by omega)).mono ?_; rintro e w' ⟨rfl, rfl⟩) | (go_at_call 97; refine (rounded_any _ _ _ _ (by omega) (by omega) (by omega) (by omega) (by omega)).mono ?_; rintro e w' ⟨rfl, rfl⟩))
   go_ret
   refine ⟨congrArg Ending.returned (congrArg (Value.int IntKind.u32) ?_), rfl⟩
   rfl
set_option maxHeartbeats 1000000 in
theorem sqrt_any (a : Int) (w : World) (h0 : 0 ≤ a) (h1 : a < 4294967296) :
 Calls Tryz.prog 62 #[.int .u32 a] w fun e w' => e = .returned (.int .u32 (SQRT a)) ∧ w' = w := by
 unfold SQRT
 cases nl : isNil a
 · rw [if_neg (by simp)]
   cases nn : isNone a
   · have s1 := and_sign a h0 h1
     by_cases h : 2147483648 ≤ a
     · rw [if_pos (.inr h)]
       have e1 : a / 2147483648 * 2147483648 = 2147483648 := by omega
       rw [e1] at s1
       clear e1
       go_enter Tryz.func62, Tryz.ntmps62
       go_wp2_with (first | (go_at_call 95; refine (nil_any _ _ (by assumption) (by assumption)).mono ?_; rintro e w' ⟨rfl, rfl⟩) | (go_at_call 91; refine (none_any _ _ (by assumption) (by assumption)).mono ?_; rintro e w' ⟨rfl, rfl⟩) | (go_at_call 92; refine (inf_any _ _ (by assumption) (by assumption)).mono ?_; rintro e w' ⟨rfl, rfl⟩))
       go_ret
       exact ⟨rfl, rfl⟩
     · rw [if_neg (by simp; omega)]
       have e1 : a / 2147483648 * 2147483648 = 0 := by omega
       rw [e1] at s1
       clear e1
       cases ni : isInf a
       · rw [if_neg (by simp)]
         exact sqrt_fin a w h0 (by omega) nn ni nl (man_of_nil nl nn)
       · rw [if_pos rfl]
         go_enter Tryz.func62, Tryz.ntmps62
         go_wp2_with (first | (go_at_call 95; refine (nil_any _ _ (by assumption) (by assumption)).mono ?_; rintro e w' ⟨rfl, rfl⟩) | (go_at_call 91; refine (none_any _ _ (by assumption) (by assumption)).mono ?_; rintro e w' ⟨rfl, rfl⟩) | (go_at_call 92; refine (inf_any _ _ (by assumption) (by assumption)).mono ?_; rintro e w' ⟨rfl, rfl⟩))
         go_ret
         exact ⟨rfl, rfl⟩
   · rw [if_pos (.inl rfl)]
     go_enter Tryz.func62, Tryz.ntmps62
     go_wp2_with (first | (go_at_call 95; refine (nil_any _ _ (by assumption) (by assumption)).mono ?_; rintro e w' ⟨rfl, rfl⟩) | (go_at_call 91; refine (none_any _ _ (by assumption) (by assumption)).mono ?_; rintro e w' ⟨rfl, rfl⟩) | (go_at_call 92; refine (inf_any _ _ (by assumption) (by assumption)).mono ?_; rintro e w' ⟨rfl, rfl⟩))
     go_ret
     exact ⟨rfl, rfl⟩
 · rw [if_pos rfl]
   go_enter Tryz.func62, Tryz.ntmps62
   go_wp2_with (first | (go_at_call 95; refine (nil_any _ _ (by assumption) (by assumption)).mono ?_; rintro e w' ⟨rfl, rfl⟩) | (go_at_call 91; refine (none_any _ _ (by assumption) (by assumption)).mono ?_; rintro e w' ⟨rfl, rfl⟩) | (go_at_call 92; refine (inf_any _ _ (by assumption) (by assumption)).mono ?_; rintro e w' ⟨rfl, rfl⟩))
   go_ret
   exact ⟨rfl, rfl⟩
end Go.Proofs.YtoihkljlekknkaaGreat
/-
  What tutorref.Less and tutorref.ToInt answer: the same as soft.Less and soft.ToInt. Conditions: the patterns are 0 to 2^32 - 1.
-/
namespace Go.Proofs.YtoihkljlekknkaaGreat
open Go.RowKit
set_option linter.unusedVariables false
set_option linter.unusedSimpArgs false
set_option maxHeartbeats 1000000 in
theorem rless_any (a b : Int) (w : World) (h0 : 0 ≤ a) (h1 : a < 4294967296) (g0 : 0 ≤ b) (g1 : b < 4294967296) :
 Calls Tryz.prog 77 #[.int .i64 a, .int .i64 b] w fun e w' => e = .returned (.bool (LESS a b)) ∧ Below w.heap.size w w' := by
 unfold LESS
 cases na : isNone a <;> cases nb : isNone b
 all_goals
  go_enter Tryz.func77, Tryz.ntmps77
  go_wp2_with fail
  refine (of_any _ _ h0 h1).mono ?_
  rintro e w1 ⟨rfl, hb1⟩
  unfold numV
  have s1 := hb1.size
  have HB1 : Hid _ := hb1
  clear hb1
  go_wp2_with fail
  refine (of_any _ _ g0 g1).mono ?_
  rintro e w2 ⟨rfl, hb2⟩
  unfold numV
  obtain ⟨x0, x1, x2, x3, x4, f0, f1, f2, f3, f4, s2⟩ := box_cells hb2
  have HB2 : Hid _ := hb2
  clear hb2
  go_wp2_with (first | (go_at_call 111; refine (rplace_any _ _ (by assumption) (by assumption)).mono ?_; rintro e w' ⟨rfl, rfl⟩))
  go_ret
  exact ⟨ret_bool (by simp), ((HB1.out.alloc s1 _).trans (HB2.out.mono (by rw [World.size_alloc]; omega))).alloc (by omega) _⟩
set_option maxHeartbeats 1000000 in
theorem rtoInt_none (a : Int) (w : World) (h0 : 0 ≤ a) (h1 : a < 4294967296) (na : isNone a = true) :
 Calls Tryz.prog 129 #[.int .i64 a] w fun e w' => e = .returned (.int .i64 0) ∧ Below w.heap.size w w' := by
 go_enter Tryz.func129, Tryz.ntmps129
 go_wp2_with fail
 refine (of_any _ _ h0 h1).mono ?_
 rintro e w1 ⟨rfl, hb1⟩
 unfold numV
 have s1 := hb1.size
 have HB1 : Hid _ := hb1
 clear hb1
 go_wp2_with fail
 go_ret
 exact ⟨rfl, HB1.out.alloc s1 _⟩
set_option maxHeartbeats 1000000 in
theorem rtoInt_inf (a : Int) (w : World) (h0 : 0 ≤ a) (h1 : a < 4294967296) (na : isNone a = false) (ia : isInf a = true) (s : Bool) (sa : isNeg a = s) :
 Calls Tryz.prog 129 #[.int .i64 a] w fun e w' => e = .returned (.int .i64 (ng s 2147483648)) ∧ Below w.heap.size w w' := by
 cases s
 all_goals
  unfold ng
  go_enter Tryz.func129, Tryz.ntmps129
  go_wp2_with fail
  refine (of_any _ _ h0 h1).mono ?_
  rintro e w1 ⟨rfl, hb1⟩
  unfold numV
  have s1 := hb1.size
  have HB1 : Hid _ := hb1
  clear hb1
  go_wp2_with fail
  go_ret
  exact ⟨rfl, HB1.out.alloc s1 _⟩
set_option maxHeartbeats 1000000 in
theorem rtoInt_far (a : Int) (w : World) (h0 : 0 ≤ a) (h1 : a < 4294967296) (na : isNone a = false) (ia : isInf a = false) (E2 : ofE a = exI a) (h8 : 8 < exI a) (s : Bool) (sa : isNeg a = s) :
 Calls Tryz.prog 129 #[.int .i64 a] w fun e w' => e = .returned (.int .i64 (ng s 2147483648)) ∧ Below w.heap.size w w' := by
 cases s
 all_goals
  unfold ng
  go_enter Tryz.func129, Tryz.ntmps129
  go_wp2_with fail
  refine (of_any _ _ h0 h1).mono ?_
  rintro e w1 ⟨rfl, hb1⟩
  unfold numV
  have s1 := hb1.size
  have HB1 : Hid _ := hb1
  clear hb1
  go_wp2_with fail
  go_ret
  exact ⟨rfl, HB1.out.alloc s1 _⟩
set_option maxHeartbeats 1000000 in
theorem rtoInt_mid (a : Int) (w : World) (h0 : 0 ≤ a) (h1 : a < 4294967296) (na : isNone a = false) (ia : isInf a = false) (E1 : ofM a = manI a) (E2 : ofE a = exI a) (h8 : exI a ≤ 8) (hn : 0 ≤ exI a) (s : Bool) (sa : isNeg a = s) :
 Calls Tryz.prog 129 #[.int .i64 a] w fun e w' => e = .returned (.int .i64 (ng s (min (manI a * 2 ^ (exI a).toNat) 2147483648))) ∧ Below w.heap.size w w' := by
 have m1 := manI_bd a
 obtain ⟨t1, t2, t3⟩ := shl_gap (manI a) (exI a) m1.1 m1.2 (by omega) (by omega)
 obtain ⟨P, hP⟩ : ∃ P, P = manI a * 2 ^ (exI a).toNat := ⟨_, rfl⟩
 rw [← hP] at t2 t3 ⊢
 have hP' := hP.symm
 clear hP t1
 by_cases hc : 2147483648 < P
 · rw [show min P 2147483648 = 2147483648 from by omega]
   cases s
   all_goals
    unfold ng
    go_enter Tryz.func129, Tryz.ntmps129
    go_wp2_with fail
    refine (of_any _ _ h0 h1).mono ?_
    rintro e w1 ⟨rfl, hb1⟩
    unfold numV
    have s1 := hb1.size
    have HB1 : Hid _ := hb1
    clear hb1
    go_wp2_with (first | (go_at_call 136; refine (nearest_up _ _ _ (by omega) (by omega) (by omega) (by omega)).mono ?_; rintro e w' ⟨rfl, rfl⟩))
    go_ret
    exact ⟨rfl, HB1.out.alloc s1 _⟩
 · rw [show min P 2147483648 = P from by omega]
   cases s
   all_goals
    unfold ng
    go_enter Tryz.func129, Tryz.ntmps129
    go_wp2_with fail
    refine (of_any _ _ h0 h1).mono ?_
    rintro e w1 ⟨rfl, hb1⟩
    unfold numV
    have s1 := hb1.size
    have HB1 : Hid _ := hb1
    clear hb1
    go_wp2_with (first | (go_at_call 136; refine (nearest_up _ _ _ (by omega) (by omega) (by omega) (by omega)).mono ?_; rintro e w' ⟨rfl, rfl⟩))
    go_ret
    exact ⟨rfl, HB1.out.alloc s1 _⟩
set_option maxHeartbeats 1000000 in
theorem rtoInt_near (a : Int) (w : World) (h0 : 0 ≤ a) (h1 : a < 4294967296) (na : isNone a = false) (ia : isInf a = false) (E1 : ofM a = manI a) (E2 : ofE a = exI a) (hn : exI a < 0) (s : Bool) (sa : isNeg a = s) :
 Calls Tryz.prog 129 #[.int .i64 a] w fun e w' => e = .returned (.int .i64 (ng s (rne (manI a).toNat (-exI a).toNat : Nat))) ∧ Below w.heap.size w w' := by
 have m1 := manI_bd a
 have x1 := exI_bd a
 have hr := WH_bd a
 rw [wh_near a hn] at hr
 obtain ⟨P, hP⟩ : ∃ P : Int, P = (rne (manI a).toNat (-exI a).toNat : Nat) := ⟨_, rfl⟩
 rw [← hP] at hr ⊢
 have hP' := hP.symm
 clear hP
 cases s
 all_goals
  unfold ng
  go_enter Tryz.func129, Tryz.ntmps129
  go_wp2_with fail
  refine (of_any _ _ h0 h1).mono ?_
  rintro e w1 ⟨rfl, hb1⟩
  unfold numV
  have s1 := hb1.size
  have HB1 : Hid _ := hb1
  clear hb1
  go_wp2_with (first | (go_at_call 136; refine (nearest_down _ _ _ (by omega) (by omega) (by omega) (by omega)).mono ?_; rintro e w' ⟨rfl, rfl⟩))
  go_ret
  exact ⟨rfl, HB1.out.alloc s1 _⟩
theorem rtoInt_any (a : Int) (w : World) (h0 : 0 ≤ a) (h1 : a < 4294967296) :
 Calls Tryz.prog 129 #[.int .i64 a] w fun e w' => e = .returned (.int .i64 (TOI a)) ∧ Below w.heap.size w w' := by
 have key : TOI a = if isNone a = true then 0 else ng (isNeg a) (WH (manI a) (exI a)) := by
  unfold TOI
  by_cases h : 2147483648 ≤ a
  · rw [if_pos h, isNeg_t h]; rfl
  · rw [if_neg h, isNeg_f h]; rfl
 rw [key]
 cases na : isNone a
 · rw [if_neg (by simp)]
   have n1 : ¬ 2139095040 < a % 2147483648 := by unfold isNone at na; simpa using na
   by_cases hi : a % 2147483648 = 2139095040
   · rw [wh_inf a hi]; exact rtoInt_inf a w h0 h1 na (isInf_t hi) _ rfl
   · have E1 := ofM_fin a (by omega)
     have E2 := ofE_fin a (by omega)
     by_cases h8 : 8 < exI a
     · rw [wh_far a h8]; exact rtoInt_far a w h0 h1 na (isInf_f hi) E2 h8 _ rfl
     · by_cases hn : exI a < 0
       · rw [wh_near a hn]; exact rtoInt_near a w h0 h1 na (isInf_f hi) E1 E2 hn _ rfl
       · rw [wh_mid a hn (by omega)]; exact rtoInt_mid a w h0 h1 na (isInf_f hi) E1 E2 (by omega) (by omega) _ rfl
 · rw [if_pos rfl]; exact rtoInt_none a w h0 h1 na
end Go.Proofs.YtoihkljlekknkaaGreat
/-
  What sums, products, quotients and roots of patterns keep: order, 0 and 1, halves. Conditions: as each theorem names them.
-/
namespace Go.Proofs.YtoihkljlekknkaaGreat
set_option linter.unusedVariables false
set_option linter.unusedSimpArgs false
theorem none_iff (a : Int) : isNone a = true ↔ 2139095040 < a % 2147483648 := by unfold isNone; simp
theorem none_iff' (a : Int) : isNone a = false ↔ ¬ 2139095040 < a % 2147483648 := by unfold isNone; simp
theorem inf_iff (a : Int) : isInf a = true ↔ a % 2147483648 = 2139095040 := by unfold isInf; simp
theorem inf_iff' (a : Int) : isInf a = false ↔ ¬ a % 2147483648 = 2139095040 := by unfold isInf; simp
theorem sz_eq (a : Int) : (sz a : Int) = a % 2147483648 := by unfold sz; omega
theorem ADD_none {a b : Int} (h : isNone a = true ∨ isNone b = true) : ADD a b = 2143289344 := by unfold ADD; rw [if_pos h]
theorem ADD_fin {a b : Int} (ha : a % 2147483648 < 2139095040) (hb : b % 2147483648 < 2139095040) : ADD a b = ADDf a b := by
 unfold ADD
 rw [if_neg (by rw [none_iff, none_iff]; omega), if_neg (by rw [inf_iff]; omega), if_neg (by rw [inf_iff]; omega)]
theorem ADD_inf1 {a b : Int} (ha : a % 2147483648 = 2139095040) (hb : ¬ 2139095040 < b % 2147483648) : ADD a b = if b = (a + 2147483648) % 4294967296 then 2143289344 else a := by
 unfold ADD
 rw [if_neg (by rw [none_iff, none_iff]; omega), if_pos (by rw [inf_iff]; omega)]
theorem ADD_inf2 {a b : Int} (ha : a % 2147483648 < 2139095040) (hb : b % 2147483648 = 2139095040) : ADD a b = b := by
 unfold ADD
 rw [if_neg (by rw [none_iff, none_iff]; omega), if_neg (by rw [inf_iff]; omega), if_pos (by rw [inf_iff]; omega)]
theorem plc_pos {a : Int} (h : a < 2147483648) : plc a = a := by unfold plc; rw [if_neg (by omega)]
theorem LESS_false {a b : Int} (h : isNone a = false → isNone b = false → plc b ≤ plc a) : LESS a b = false := by
 unfold LESS
 cases ha : isNone a
 · cases hb : isNone b
   · have := h ha hb; simp; omega
   · simp
 · simp
/-- sums of one sign do not fall below -/
theorem ADD_ge (x y : Int) (x0 : 0 ≤ x) (x1 : x ≤ 2139095040) (y0 : 0 ≤ y) (y1 : y ≤ 2139095040) : x ≤ ADD x y ∧ y ≤ ADD x y ∧ ADD x y ≤ 2139095040 := by
 by_cases hx : x = 2139095040
 · rw [ADD_inf1 (by omega) (by omega), if_neg (by omega)]; omega
 · by_cases hy : y = 2139095040
   · rw [ADD_inf2 (by omega) (by omega)]; omega
   · rw [ADD_fin (by omega) (by omega), ← ADDf_same x y (by omega) x0 (by omega)]
     have b := RZ_bd (val (sz x) + val (sz y))
     have h1 := RZ_mono (show val (sz x) ≤ val (sz x) + val (sz y) by omega)
     have h2 := RZ_mono (show val (sz y) ≤ val (sz x) + val (sz y) by omega)
     have e1 := sz_eq x
     have e2 := sz_eq y
     rw [RZ_val (sz x) (by omega)] at h1
     rw [RZ_val (sz y) (by omega)] at h2
     omega
theorem sgn2_pos {a b : Int} (h0 : 0 ≤ a) (ha : a < 2147483648) (g0 : 0 ≤ b) (hb : b < 2147483648) : sgn2 a b = 0 := by unfold sgn2; rw [if_pos (by omega)]
theorem man_half : manI 1056964608 = 8388608 ∧ exI 1056964608 = -24 := by decide
theorem man_one : manI 1065353216 = 8388608 ∧ exI 1065353216 = -23 := by decide
/-- the half of a number that is not too small -/
theorem MUL_half (x : Int) (x0 : 16777216 ≤ x) (x1 : x < 2139095040) : MUL x 1056964608 = x - 8388608 := by
 unfold MUL
 rw [if_neg (by rw [none_iff, none_iff]; omega), if_neg (by rw [inf_iff]; omega), if_neg (by decide), sgn2_pos (by omega) (by omega) (by decide) (by decide), man_half.1, man_half.2]
 have m1 := manI_bd x
 have e : RI (manI x * 8388608) (exI x + -24) = RI (manI x) (exI x - 1) := RI_same (manI x) (exI x - 1) (manI x * 8388608) (exI x + -24) m1.1 23 (by rfl) (by omega) (by have := exI_bd x; omega)
 have hm : 8388608 ≤ manI x := by unfold manI; rw [if_neg (by omega)]; omega
 have he : -148 ≤ exI x := by unfold exI; rw [if_neg (by omega)]; omega
 rw [e, RI_high (manI x) (exI x - 1) hm m1.2 (by omega)]
 unfold manI exI
 rw [if_neg (by omega), if_neg (by omega)]; omega
theorem half_twice (x : Int) (x0 : 16777216 ≤ x) (x1 : x ≤ 2139095040) : ADD (MUL x 1056964608) (MUL x 1056964608) = x := by
 by_cases hx : x = 2139095040
 · subst hx
   have e : MUL 2139095040 1056964608 = 2139095040 := by
    unfold MUL
    rw [if_neg (by decide), if_pos (by decide), if_neg (by decide), sgn2_pos (by decide) (by decide) (by decide) (by decide)]; rfl
   rw [e, ADD_inf1 (by decide) (by decide), if_neg (by decide)]
 · rw [MUL_half x x0 (by omega), ADD_fin (by omega) (by omega), ← ADDf_same _ _ rfl (by omega) (by omega)]
   have e1 := sz_eq (x - 8388608)
   have hs : sz x = sz (x - 8388608) + 8388608 := by have := sz_eq x; omega
   have hv : val (sz (x - 8388608)) + val (sz (x - 8388608)) = val (sz x) := by
    rw [hs]
    generalize hq : sz (x - 8388608) = q
    have hq0 : 8388608 ≤ q := by omega
    unfold val man ex
    rw [if_neg (by omega), if_neg (by omega), show (q + 8388608) % 8388608 = q % 8388608 from by omega, show (q + 8388608) / 8388608 - 1 = (q / 8388608 - 1) + 1 from by omega, Nat.pow_succ, ← Nat.mul_assoc]
    omega
   rw [hv, RZ_val _ (by have := sz_eq x; omega)]
   have := sz_eq x
   omega
theorem U_le (b a : Nat) (h : b ≤ a) : U b ≤ 2 ^ a := Nat.pow_le_pow_right (by decide) h
theorem SQ_pos (a : Int) (ma : manI a ≠ 0) : 0 < SQ a ∧ SQ a ≤ 2139095040 := by
 have xa := exI_bd a
 have hM := sqM_bd a ma
 have hub := upI_bd a
 have hevb : 39 ≤ evI a ∧ evI a ≤ 64 := by unfold evI; split <;> omega
 refine ⟨?_, (RI_bd _ _).2⟩
 obtain ⟨b1, b2⟩ := rt_spec (sqM a).toNat (by omega)
 have q : 1 ≤ rt (sqM a).toNat := by
  refine Nat.le_of_not_lt fun g => ?_
  have : rt (sqM a).toNat = 0 := by omega
  rw [this] at b2; omega
 have hst : 1 ≤ stick (rt (sqM a).toNat) (sqM a - rt (sqM a).toNat * rt (sqM a).toNat) := by
  unfold stick; split <;> (try split) <;> omega
 unfold SQ RI
 generalize stick (rt (sqM a).toNat) (sqM a - rt (sqM a).toNat * rt (sqM a).toNat) = t at *
 have h1 : V 1 ≤ t.toNat * 2 ^ ((exI a - evI a) / 2 + 1000).toNat := by
  rw [VU 1]
  refine Nat.mul_le_mul (show val 1 ≤ t.toNat from ?_) (U_le 851 _ (by omega))
  have : val 1 = 1 := by decide
  omega
 have := RR_mono h1
 rw [RR_V 1 (by decide)] at this
 omega
theorem SQRT_ok (x : Int) (x0 : 0 ≤ x) (x1 : x ≤ 2139095040) : 0 ≤ SQRT x ∧ SQRT x ≤ 2139095040 ∧ (x ≠ 0 → SQRT x ≠ 0) := by
 unfold SQRT
 by_cases h : x = 0
 · subst h; rw [if_pos (by decide)]; decide
 · have hn : isNil x = false := isNil_f (by omega)
   have hnn : isNone x = false := isNone_f (by omega)
   rw [hn, hnn, if_neg (by simp), if_neg (by simp; omega)]
   by_cases hi : x = 2139095040
   · subst hi; rw [if_pos (by decide)]; decide
   · rw [if_neg (by rw [inf_iff]; omega)]
     have := SQ_pos x (man_of_nil hn hnn)
     omega
end Go.Proofs.YtoihkljlekknkaaGreat
/-
  What tutorkeep.size, none, finite and pick answer. Conditions: the arguments fit their kinds.
-/
namespace Go.Proofs.YtoihkljlekknkaaGreat
open Go.RowKit
set_option linter.unusedVariables false
set_option linter.unusedSimpArgs false
theorem MUL_bd (a b : Int) : 0 ≤ MUL a b ∧ MUL a b < 4294967296 := by
 have h1 := sgn2_or a b
 have h2 := RI_bd (manI a * manI b) (exI a + exI b)
 unfold MUL
 split
 · omega
 · split
   · split <;> omega
   · split
     · split <;> omega
     · omega
theorem DIV_bd (a b : Int) : 0 ≤ DIV a b ∧ DIV a b < 4294967296 := by
 have h1 := sgn2_or a b
 have h2 : 0 ≤ DQ a b ∧ DQ a b ≤ 2139095040 := RI_bd _ _
 unfold DIV
 split
 · omega
 · split
   · split <;> omega
   · split
     · split <;> omega
     · split <;> omega
theorem FROMI_bd (n : Int) : 0 ≤ FROMI n ∧ FROMI n < 4294967296 := by
 have h1 := RI_bd (-n) 0
 have h2 := RI_bd n 0
 unfold FROMI; split <;> omega
end Go.Proofs.YtoihkljlekknkaaGreat
/-
  What soft.Exp, Sigmoid, Tanh and Cos answer, for every pattern: P4a of the document. No condition.
-/
namespace Go.Proofs.YtoihkljlekknkaaGreat
open Go.RowKit
set_option linter.unusedVariables false
set_option linter.unusedSimpArgs false
theorem man_log : manI 1069066811 = 12102203 ∧ exI 1069066811 = -23 := by decide
theorem val_104 : val 1120927744 = 104 * 2 ^ 149 := by decide
theorem val_156 : val 1125908480 = 156 * 2 ^ 149 := by decide
theorem log_aux (m P E u v : Nat) (hE : P * 8388608 = E * u) (hv : m * E ≤ 104 * v) : m * 12102203 * P ≤ 156 * v * u := by
 refine Nat.le_of_mul_le_mul_right (c := 8388608) ?_ (by decide)
 have e1 : m * 12102203 * P * 8388608 = m * E * u * 12102203 := by
  rw [Nat.mul_assoc, hE, Nat.mul_assoc m 12102203, Nat.mul_comm 12102203 (E * u), ← Nat.mul_assoc, ← Nat.mul_assoc]
 have e2 : m * E * u ≤ 104 * v * u := Nat.mul_le_mul_right _ hv
 rw [e1]
 rw [Nat.mul_assoc] at e2
 rw [Nat.mul_assoc 156 v u]
 rw [Nat.mul_assoc 104 v u] at e2
 rw [Nat.mul_assoc m E u]
 generalize m * (E * u) = t at *
 generalize v * u = s at *
 omega
theorem pow_828 (e : Nat) : 2 ^ (e + 828) * 8388608 = 2 ^ e * U 851 := by
 rw [U_add, show (8388608 : Nat) = 2 ^ 23 from rfl, ← Nat.pow_add]
theorem mul_log_le (a : Int) (h : sz a ≤ 1120927744) : RI (manI a * 12102203) (exI a + -23) ≤ 1125908480 := by
 have hv := val_le h
 rw [val_104] at hv
 have e1 : (manI a * 12102203).toNat = man (sz a) * 12102203 := by rw [manI_eq]; omega
 have e2 : (exI a + -23 + 1000).toNat = ex (sz a) + 828 := by rw [exI_eq]; omega
 have h1 : man (sz a) * 12102203 * 2 ^ (ex (sz a) + 828) ≤ V 1125908480 := by
  rw [VU, val_156]
  exact log_aux (man (sz a)) _ (2 ^ ex (sz a)) (U 851) (2 ^ 149) (pow_828 _) hv
 unfold RI
 rw [e1, e2]
 have := RR_mono h1
 rw [RR_V 1125908480 (by decide)] at this
 omega
theorem rne_small (m d : Nat) (h : m < 16777216) (hd : 17 ≤ d) : rne m d ≤ 128 := by
 have h1 : 2 ^ 17 ≤ 2 ^ d := Nat.pow_le_pow_right (by decide) hd
 have h2 : m / 2 ^ d ≤ m / 2 ^ 17 := Nat.div_le_div_left h1 (by decide)
 unfold rne; split <;> omega
theorem WH_small (p : Int) (h : sz p ≤ 1125908480) : WH (manI p) (exI p) ≤ 156 := by
 have hs := sz_eq p
 have m1 := manI_bd p
 have hx : exI p ≤ -16 := by unfold exI; split <;> omega
 unfold WH
 rw [if_pos (by omega)]
 by_cases h16 : exI p = -16
 · have hm : manI p ≤ 10223616 := by unfold exI at h16; unfold manI; split at h16 <;> split <;> omega
   rw [h16, show (- -16 : Int).toNat = 16 from rfl]
   unfold rne
   rw [show (2 : Nat) ^ 16 = 65536 from rfl]
   split <;> omega
 · have := rne_small (manI p).toNat (-exI p).toNat (by omega) (by omega)
   omega
theorem k_bd (a : Int) (h0 : 0 ≤ a) (h1 : a < 4294967296) (na : isNone a = false) (l1 : LESS 1118925335 a = false) (l2 : LESS a 3268407733 = false) : -156 ≤ EXPk a ∧ EXPk a ≤ 156 := by
 have hs := sz_eq a
 have p1 : plc a ≤ 1118925335 := by
  unfold LESS at l1
  rw [na, show isNone 1118925335 = false from by decide, show plc 1118925335 = 1118925335 from by decide] at l1
  simp at l1; omega
 have p2 : -1120924085 ≤ plc a := by
  unfold LESS at l2
  rw [na, show isNone 3268407733 = false from by decide, show plc 3268407733 = -1120924085 from by decide] at l2
  simp at l2; omega
 have hz : sz a ≤ 1120927744 := by unfold plc at p1 p2; split at p1 <;> (split at p2 <;> omega)
 have hle := mul_log_le a hz
 have hb := RI_bd (manI a * 12102203) (exI a + -23)
 have so := sgn2_or a 1069066811
 have hM : MUL a 1069066811 = sgn2 a 1069066811 + RI (manI a * 12102203) (exI a + -23) := by
  unfold MUL
  rw [if_neg (by rw [na]; decide), if_neg (by rw [inf_iff]; omega), if_neg (by decide), man_log.1, man_log.2]
 unfold EXPk
 rw [hM]
 generalize RI (manI a * 12102203) (exI a + -23) = t at *
 generalize sgn2 a 1069066811 = s at *
 have hw := WH_small (s + t) (by unfold sz; omega)
 have hw0 := (WH_bd (s + t)).1
 unfold TOI
 split
 · omega
 · split <;> omega
set_option maxHeartbeats 1000000 in
theorem exp_any (a : Int) (w : World) (h0 : 0 ≤ a) (h1 : a < 4294967296) :
 Calls Tryz.prog 134 #[.int .u32 a] w fun e w' => e = .returned (.int .u32 (EXP a)) ∧ Below w.heap.size w w' := by
 unfold EXP
 cases na : isNone a
 · rw [if_neg (by simp)]
   cases l1 : LESS 1118925335 a
   · rw [if_neg (by simp)]
     cases l2 : LESS a 3268407733
     · rw [if_neg (by simp)]; exact exp_fin a w h0 h1 na l1 l2 (k_bd a h0 h1 na l1 l2)
     · rw [if_pos rfl]
       go_enter Tryz.func134, Tryz.ntmps134
       go_wp2_with (first | (go_at_call 91; refine (none_any _ _ (by assumption) (by assumption)).mono ?_; rintro e w' ⟨rfl, rfl⟩) | (go_at_call 60; refine (less_any _ _ _ (by omega) (by omega) (by omega) (by omega)).mono ?_; rintro e w' ⟨rfl, rfl⟩))
       go_ret
       exact ⟨rfl, Below.refl _ _⟩
   · rw [if_pos rfl]
     go_enter Tryz.func134, Tryz.ntmps134
     go_wp2_with (first | (go_at_call 91; refine (none_any _ _ (by assumption) (by assumption)).mono ?_; rintro e w' ⟨rfl, rfl⟩) | (go_at_call 60; refine (less_any _ _ _ (by omega) (by omega) (by omega) (by omega)).mono ?_; rintro e w' ⟨rfl, rfl⟩))
     go_ret
     exact ⟨rfl, Below.refl _ _⟩
 · rw [if_pos rfl]
   go_enter Tryz.func134, Tryz.ntmps134
   go_wp2_with (first | (go_at_call 91; refine (none_any _ _ (by assumption) (by assumption)).mono ?_; rintro e w' ⟨rfl, rfl⟩))
   go_ret
   exact ⟨rfl, Below.refl _ _⟩
theorem EXP_bd (a : Int) : 0 ≤ EXP a ∧ EXP a < 4294967296 := by
 have := MUL_bd (MUL (polyK cExp (EXPr a) 6) (POW (EXPk a / 2))) (POW (EXPk a - EXPk a / 2))
 unfold EXP EXPf
 split
 · omega
 · split
   · omega
   · split <;> omega
/-- P4a -/
def SIG (a : Int) : Int := DIV 1065353216 (ADD 1065353216 (EXP ((a + 2147483648) % 4294967296)))
set_option maxHeartbeats 1000000 in
theorem sig_any (a : Int) (w : World) (h0 : 0 ≤ a) (h1 : a < 4294967296) :
 Calls Tryz.prog 132 #[.int .u32 a] w fun e w' => e = .returned (.int .u32 (SIG a)) ∧ Below w.heap.size w w' := by
 unfold SIG
 have eb := EXP_bd ((a + 2147483648) % 4294967296)
 have ab := ADD_bd 1065353216 (EXP ((a + 2147483648) % 4294967296)) (by decide) (by decide) eb.1 eb.2
 go_enter Tryz.func132, Tryz.ntmps132
 go_wp2_with (first | (go_at_call 93; refine (turned_any _ _ (by assumption) (by assumption)).mono ?_; rintro e w' ⟨rfl, rfl⟩))
 refine (exp_any _ _ (by omega) (by omega)).mono ?_
 rintro e w1 ⟨rfl, hb1⟩
 have HB1 : Hid _ := hb1
 clear hb1
 go_wp2_with (first | (go_at_call 56; refine (add_any _ _ _ (by omega) (by omega) (by omega) (by omega)).mono ?_; rintro e w' ⟨rfl, rfl⟩) | (go_at_call 58; refine (div_any _ _ _ (by omega) (by omega) (by omega) (by omega)).mono ?_; rintro e w' ⟨rfl, n, rfl⟩))
 go_ret
 exact ⟨rfl, below_drewN HB1.out _⟩
theorem SIG_bd (a : Int) : 0 ≤ SIG a ∧ SIG a < 4294967296 := DIV_bd _ _
def TANH (a : Int) : Int := SUB (MUL 1073741824 (SIG (MUL 1073741824 a))) 1065353216
set_option maxHeartbeats 1000000 in
theorem tanh_any (a : Int) (w : World) (h0 : 0 ≤ a) (h1 : a < 4294967296) :
 Calls Tryz.prog 131 #[.int .u32 a] w fun e w' => e = .returned (.int .u32 (TANH a)) ∧ Below w.heap.size w w' := by
 unfold TANH
 have b1 := MUL_bd 1073741824 a
 have b2 := SIG_bd (MUL 1073741824 a)
 have b3 := MUL_bd 1073741824 (SIG (MUL 1073741824 a))
 go_enter Tryz.func131, Tryz.ntmps131
 go_wp2_with (first | (go_at_call 61; refine (mul_any _ _ _ (by omega) (by omega) (by omega) (by omega)).mono ?_; rintro e w' ⟨rfl, rfl⟩))
 refine (sig_any _ _ (by omega) (by omega)).mono ?_
 rintro e w1 ⟨rfl, hb1⟩
 have HB1 : Hid _ := hb1
 clear hb1
 go_wp2_with (first | (go_at_call 61; refine (mul_any _ _ _ (by omega) (by omega) (by omega) (by omega)).mono ?_; rintro e w' ⟨rfl, rfl⟩) | (go_at_call 64; refine (sub_any _ _ _ (by omega) (by omega) (by omega) (by omega)).mono ?_; rintro e w' ⟨rfl, rfl⟩))
 go_ret
 exact ⟨rfl, HB1.out⟩
theorem cells5 (w : World) : ∀ j, j < 5 → (w.alloc (.cells #[.int .u32 936381697, .int .u32 3132492641, .int .u32 1026206379, .int .u32 3204448256, .int .u32 1065353216] 29)).cell? ⟨w.heap.size, j, none⟩ = some (.int .u32 (cCos j)) := by
 intro j hj
 match j, hj with
 | 0, _ => simp [go_sem, cCos]
 | 1, _ => simp [go_sem, cCos]
 | 2, _ => simp [go_sem, cCos]
 | 3, _ => simp [go_sem, cCos]
 | 4, _ => simp [go_sem, cCos]
def COS1 (b : Int) : Int := polyK cCos (MUL (MUL 1078530011 b) (MUL 1078530011 b)) 4
def COS (a : Int) : Int := if LESS 1056964608 a = true then (COS1 (SUB 1065353216 a) + 2147483648) % 4294967296 else COS1 a
theorem COS1_bd (b : Int) : 0 ≤ COS1 b ∧ COS1 b < 4294967296 := polyK_bd _ _ cCos_bd _
set_option maxHeartbeats 1000000 in
theorem cosine_any (b : Int) (w : World) (h0 : 0 ≤ b) (h1 : b < 4294967296) :
 Calls Tryz.prog 128 #[.int .u32 b] w fun e w' => e = .returned (.int .u32 (COS1 b)) ∧ Below w.heap.size w w' := by
 unfold COS1
 have b1 := MUL_bd 1078530011 b
 have b2 := MUL_bd (MUL 1078530011 b) (MUL 1078530011 b)
 go_enter Tryz.func128, Tryz.ntmps128
 go_wp2_with (first | (go_at_call 61; refine (mul_any _ _ _ (by omega) (by omega) (by omega) (by omega)).mono ?_; rintro e w' ⟨rfl, rfl⟩))
 refine (poly_any _ 5 cCos _ _ b2.1 b2.2 (by decide) (by decide) (cells5 _) cCos_bd).mono ?_
 rintro e w' ⟨rfl, rfl⟩
 go_wp2
 go_ret
 exact ⟨rfl, bel1 _ _⟩
set_option maxHeartbeats 1000000 in
theorem cos_any (a : Int) (w : World) (h0 : 0 ≤ a) (h1 : a < 4294967296) :
 Calls Tryz.prog 121 #[.int .u32 a] w fun e w' => e = .returned (.int .u32 (COS a)) ∧ Below w.heap.size w w' := by
 unfold COS
 have b1 := SUB_bd 1065353216 a (by decide) (by decide)
 have b2 := COS1_bd (SUB 1065353216 a)
 cases l : LESS 1056964608 a
 · rw [if_neg (by simp)]
   go_enter Tryz.func121, Tryz.ntmps121
   go_wp2_with (first | (go_at_call 60; refine (less_any _ _ _ (by omega) (by omega) (by omega) (by omega)).mono ?_; rintro e w' ⟨rfl, rfl⟩))
   refine (cosine_any _ _ (by omega) (by omega)).mono ?_
   rintro e w1 ⟨rfl, hb1⟩
   have HB1 : Hid _ := hb1
   clear hb1
   go_wp2
   go_ret
   exact ⟨rfl, HB1.out⟩
 · rw [if_pos rfl]
   go_enter Tryz.func121, Tryz.ntmps121
   go_wp2_with (first | (go_at_call 60; refine (less_any _ _ _ (by omega) (by omega) (by omega) (by omega)).mono ?_; rintro e w' ⟨rfl, rfl⟩) | (go_at_call 64; refine (sub_any _ _ _ (by omega) (by omega) (by omega) (by omega)).mono ?_; rintro e w' ⟨rfl, rfl⟩))
   refine (cosine_any _ _ (by omega) (by omega)).mono ?_
   rintro e w1 ⟨rfl, hb1⟩
   have HB1 : Hid _ := hb1
   clear hb1
   go_wp2_with (first | (go_at_call 93; refine (turned_any _ _ (by omega) (by omega)).mono ?_; rintro e w' ⟨rfl, rfl⟩))
   go_ret
   exact ⟨rfl, HB1.out⟩
end Go.Proofs.YtoihkljlekknkaaGreat
