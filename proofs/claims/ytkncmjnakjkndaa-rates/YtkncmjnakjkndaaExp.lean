/-
  What soft.polynomial, powerOf2 and the middle part of soft.Exp answer: P4a of the document. Conditions: as each theorem names them.
-/
import Derived.Test.YtkncmjnakjkndaaInts
import Derived.Test.YtkncmjnakjkndaaMulDiv
namespace Go.Proofs.Ytkncmjnakjkndaa
open Go.RowKit
set_option linter.unusedVariables false
set_option linter.unusedSimpArgs false
/-- a polynomial behind its first k + 1 coefficients -/
def polyK (c : Nat → Int) (x : Int) : Nat → Int
  | 0 => c 0
  | k + 1 => ADD (MUL (polyK c x k) x) (c (k + 1))
theorem MUL_bd' (a b : Int) : 0 ≤ MUL a b ∧ MUL a b < 4294967296 := by
  have h1 := sgn2_or a b
  have h2 := RI_bd (manI a * manI b) (exI a + exI b)
  unfold MUL
  split
  · omega
  · split
    · split <;> omega
    · split
      · split <;> omega
      · omega
theorem polyK_bd (c : Nat → Int) (x : Int) (hb : ∀ j, 0 ≤ c j ∧ c j < 4294967296) (k : Nat) : 0 ≤ polyK c x k ∧ polyK c x k < 4294967296 := by
  cases k with
  | zero => exact hb 0
  | succ k =>
    have m := MUL_bd' (polyK c x k) x
    exact ADD_bd _ _ m.1 m.2 (hb _).1 (hb _).2
set_option maxHeartbeats 1000000 in
theorem poly_any (x : Int) (n : Nat) (c : Nat → Int) (g : Nat) (w : World) (x0 : 0 ≤ x) (x1 : x < 4294967296) (n0 : 1 < n) (n1 : n ≤ 100)
    (hc : ∀ j, j < n → w.cell? ⟨g, j, none⟩ = some (.int .u32 (c j))) (hb : ∀ j, 0 ≤ c j ∧ c j < 4294967296) :
    Calls Try.prog 82 #[.int .u32 x, .slice (some ⟨g, 0, none⟩) n n] w fun e w' => e = .returned (.int .u32 (polyK c x (n - 1))) ∧ w' = w := by
  have z : ((n : Int) == 0) = false := by simp only [beq_eq_false_iff_ne, ne_eq]; omega
  have c0 := hc 0 (by omega)
  have n2 : ¬ n = 1 := by omega
  have HC : Hid _ := hc
  have HBB : Hid _ := hb
  clear hc hb
  go_enter Try.func82, Try.ntmps82
  go_wp2
  go_loop [5, 17] (fun pv iv => ∃ k : Nat, k ≤ n - 1 ∧ iv = .int .i64 k ∧ pv = .int .u32 (polyK c x k)) (fun _ iv => n - (intOf iv).toNat)
  case atStart => exact ⟨0, by omega, rfl, rfl⟩
  case round =>
    obtain ⟨k, hk, rfl, rfl⟩ := hrel
    have pb := polyK_bd c x HBB.out k
    have mb := MUL_bd' (polyK c x k) x
    have R : Hid (polyK c x (k + 1) = ADD (MUL (polyK c x k) x) (c (k + 1))) := rfl
    have R2 : Hid (polyK c x k = polyK c x k) := rfl
    obtain ⟨p, hp⟩ : ∃ p, p = polyK c x k := ⟨_, rfl⟩
    rw [← hp] at pb mb R ⊢
    by_cases hlt : k < n - 1
    · have ck : w.cell? ⟨g, 1 + k, none⟩ = some (.int .u32 (c (k + 1))) := by rw [Nat.add_comm]; exact HC.out (k + 1) (by omega)
      have cb := HBB.out (k + 1)
      clear hp
      go_wp2_with (first | (go_at_call 21; refine (mul_any _ _ _ (by omega) (by omega) (by omega) (by omega)).mono ?_; rintro e w' ⟨rfl, rfl⟩) | (go_at_call 16; refine (add_any _ _ _ (by omega) (by omega) (by omega) (by omega)).mono ?_; rintro e w' ⟨rfl, rfl⟩))
      go_round
      case rel => exact ⟨k + 1, by omega, by go_num, congrArg _ R.out.symm⟩
      case measure => simp [intOf]; omega
    · have hkn : k = n - 1 := by omega
      rw [hkn] at hp
      have HP : Hid _ := hp
      clear hp R hkn
      go_wp2
      go_ret
      refine ⟨congrArg Ending.returned (congrArg (Value.int IntKind.u32) ?_), rfl⟩
      exact HP.out
def POW (n : Int) : Int := (n + 127) * 8388608
set_option maxHeartbeats 400000 in
theorem pow2_any (n : Int) (w : World) (h0 : -127 ≤ n) (h1 : n ≤ 128) :
    Calls Try.prog 83 #[.int .i64 n] w fun e w' => e = .returned (.int .u32 (POW n)) ∧ w' = w := by
  unfold POW
  go_enter Try.func83, Try.ntmps83
  go_wp2
  go_ret
  exact ⟨rfl, rfl⟩
def cExp (j : Nat) : Int := if j = 0 then 985008993 else if j = 1 then 1007192201 else if j = 2 then 1026206379 else if j = 3 then 1042983595 else if j = 4 then 1056964608 else 1065353216
def cCos (j : Nat) : Int := if j = 0 then 936381697 else if j = 1 then 3132492641 else if j = 2 then 1026206379 else if j = 3 then 3204448256 else 1065353216
theorem cExp_bd (j : Nat) : 0 ≤ cExp j ∧ cExp j < 4294967296 := by unfold cExp; split <;> (try split) <;> (try split) <;> (try split) <;> (try split) <;> omega
theorem cCos_bd (j : Nat) : 0 ≤ cCos j ∧ cCos j < 4294967296 := by unfold cCos; split <;> (try split) <;> (try split) <;> (try split) <;> omega
/-- P4a -/
def EXPk (a : Int) : Int := TOI (MUL a 1069066811)
def EXPr (a : Int) : Int := SUB (SUB a (MUL (FROMI (EXPk a)) 1060205056)) (MUL (FROMI (EXPk a)) 901758606)
def EXPf (a : Int) : Int := MUL (MUL (polyK cExp (EXPr a) 6) (POW (EXPk a / 2))) (POW (EXPk a - EXPk a / 2))
def EXP (a : Int) : Int := if isNone a = true then 2143289344 else if LESS 1118925335 a = true then 2139095040 else if LESS a 3268407733 = true then 0 else EXPf a
theorem cells7 (w : World) : ∀ j, j < 7 → (w.alloc (.cells #[.int .u32 985008993, .int .u32 1007192201, .int .u32 1026206379, .int .u32 1042983595, .int .u32 1056964608, .int .u32 1065353216, .int .u32 1065353216] 23)).cell? ⟨w.heap.size, j, none⟩ = some (.int .u32 (cExp j)) := by
  intro j hj
  match j, hj with
  | 0, _ => simp [go_sem, cExp]
  | 1, _ => simp [go_sem, cExp]
  | 2, _ => simp [go_sem, cExp]
  | 3, _ => simp [go_sem, cExp]
  | 4, _ => simp [go_sem, cExp]
  | 5, _ => simp [go_sem, cExp]
  | 6, _ => simp [go_sem, cExp]
theorem FROMI_bd' (n : Int) : 0 ≤ FROMI n ∧ FROMI n < 4294967296 := by
  have h1 := RI_bd (-n) 0
  have h2 := RI_bd n 0
  unfold FROMI; split <;> omega
theorem SUB_bd (a b : Int) (h0 : 0 ≤ a) (h1 : a < 4294967296) : 0 ≤ SUB a b ∧ SUB a b < 4294967296 := ADD_bd a _ h0 h1 (by omega) (by omega)
theorem POW_bd (n : Int) (h0 : -127 ≤ n) (h1 : n ≤ 128) : 0 ≤ POW n ∧ POW n < 4294967296 := by unfold POW; omega
theorem bel1 (w : World) (o : Obj) : Below w.heap.size w (w.alloc o) := (Below.refl _ _).alloc (Nat.le_refl _) _
set_option maxHeartbeats 2000000 in
theorem exp_fin (a : Int) (w : World) (h0 : 0 ≤ a) (h1 : a < 4294967296) (na : isNone a = false) (l1 : LESS 1118925335 a = false) (l2 : LESS a 3268407733 = false) (kb : -156 ≤ EXPk a ∧ EXPk a ≤ 156) :
    Calls Try.prog 33 #[.int .u32 a] w fun e w' => e = .returned (.int .u32 (EXPf a)) ∧ Below w.heap.size w w' := by
  unfold EXPf EXPr
  unfold EXPk at kb ⊢
  have b1 := MUL_bd' a 1069066811
  obtain ⟨A1, e1⟩ : ∃ x, MUL a 1069066811 = x := ⟨_, rfl⟩
  rw [e1] at b1 kb ⊢
  obtain ⟨K, e2⟩ : ∃ x, TOI A1 = x := ⟨_, rfl⟩
  rw [e2] at kb ⊢
  have b3 := FROMI_bd' K
  obtain ⟨Fr, e3⟩ : ∃ x, FROMI K = x := ⟨_, rfl⟩
  rw [e3] at b3 ⊢
  have b4 := MUL_bd' Fr 1060205056
  obtain ⟨M1, e4⟩ : ∃ x, MUL Fr 1060205056 = x := ⟨_, rfl⟩
  rw [e4] at b4 ⊢
  have b5 := SUB_bd a M1 h0 h1
  obtain ⟨S1, e5⟩ : ∃ x, SUB a M1 = x := ⟨_, rfl⟩
  rw [e5] at b5 ⊢
  have b6 := MUL_bd' Fr 901758606
  obtain ⟨M2, e6⟩ : ∃ x, MUL Fr 901758606 = x := ⟨_, rfl⟩
  rw [e6] at b6 ⊢
  have b7 := SUB_bd S1 M2 b5.1 b5.2
  obtain ⟨R, e7⟩ : ∃ x, SUB S1 M2 = x := ⟨_, rfl⟩
  rw [e7] at b7 ⊢
  have b8 := polyK_bd cExp R cExp_bd 6
  obtain ⟨P, e8⟩ : ∃ x, polyK cExp R 6 = x := ⟨_, rfl⟩
  rw [e8] at b8 ⊢
  have b9 := POW_bd (K / 2) (by omega) (by omega)
  have b10 := POW_bd (K - K / 2) (by omega) (by omega)
  obtain ⟨W1, e9⟩ : ∃ x, POW (K / 2) = x := ⟨_, rfl⟩
  obtain ⟨W2, e10⟩ : ∃ x, POW (K - K / 2) = x := ⟨_, rfl⟩
  rw [e9] at b9
  rw [e10] at b10
  rw [e9, e10]
  have b11 := MUL_bd' P W1
  obtain ⟨Q1, e11⟩ : ∃ x, MUL P W1 = x := ⟨_, rfl⟩
  rw [e11] at b11 ⊢
  go_enter Try.func33, Try.ntmps33
  go_wp2_with (first | (go_at_call 59; refine (none_any _ _ (by assumption) (by assumption)).mono ?_; rintro e w' ⟨rfl, rfl⟩) | (go_at_call 26; refine (less_any _ _ _ (by omega) (by omega) (by omega) (by omega)).mono ?_; rintro e w' ⟨rfl, rfl⟩) | (go_at_call 21; refine (mul_any _ _ _ (by omega) (by omega) (by omega) (by omega)).mono ?_; rintro e w' ⟨rfl, rfl⟩) | (go_at_call 17; refine (sub_any _ _ _ (by omega) (by omega) (by omega) (by omega)).mono ?_; rintro e w' ⟨rfl, rfl⟩) | (go_at_call 27; refine (toInt_any _ _ (by omega) (by omega)).mono ?_; rintro e w' ⟨rfl, rfl⟩) | (go_at_call 28; refine (fromInt_any _ _ (by omega) (by omega)).mono ?_; rintro e w' ⟨rfl, rfl⟩))
  refine (poly_any R 7 cExp _ _ b7.1 b7.2 (by decide) (by decide) (cells7 _) cExp_bd).mono ?_
  rintro e w' ⟨rfl, rfl⟩
  go_wp2_with (first | (go_at_call 21; refine (mul_any _ _ _ (by omega) (by omega) (by omega) (by omega)).mono ?_; rintro e w' ⟨rfl, rfl⟩) | (go_at_call 83; refine (pow2_any _ _ (by omega) (by omega)).mono ?_; rintro e w' ⟨rfl, rfl⟩))
  go_ret
  refine ⟨congrArg Ending.returned (congrArg (Value.int IntKind.u32) ?_), bel1 _ _⟩
  rfl
end Go.Proofs.Ytkncmjnakjkndaa
