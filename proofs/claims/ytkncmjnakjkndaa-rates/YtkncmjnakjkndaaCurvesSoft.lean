/-
  What soft.Exp, Sigmoid, Tanh and Cos answer, for every pattern: P4a of the document. No condition.
-/
import Derived.Test.YtkncmjnakjkndaaExp
import Derived.Test.YtkncmjnakjkndaaKeepWalk
namespace Go.Proofs.Ytkncmjnakjkndaa
open Go.RowKit
set_option linter.unusedVariables false
set_option linter.unusedSimpArgs false
theorem man_log : manI 1069066811 = 12102203 ∧ exI 1069066811 = -23 := by decide
theorem val_104 : val 1120927744 = 104 * 2 ^ 149 := by decide
theorem val_156 : val 1125908480 = 156 * 2 ^ 149 := by decide
theorem log_aux (m P E u v : Nat) (hE : P * 8388608 = E * u) (hv : m * E ≤ 104 * v) : m * 12102203 * P ≤ 156 * v * u := by
  refine Nat.le_of_mul_le_mul_right (c := 8388608) ?_ (by decide)
  have e1 : m * 12102203 * P * 8388608 = m * E * u * 12102203 := by
    rw [Nat.mul_assoc, hE, Nat.mul_assoc m 12102203, Nat.mul_comm 12102203 (E * u), ← Nat.mul_assoc, ← Nat.mul_assoc]
  have e2 : m * E * u ≤ 104 * v * u := Nat.mul_le_mul_right _ hv
  rw [e1]
  rw [Nat.mul_assoc] at e2
  rw [Nat.mul_assoc 156 v u]
  rw [Nat.mul_assoc 104 v u] at e2
  rw [Nat.mul_assoc m E u]
  generalize m * (E * u) = t at *
  generalize v * u = s at *
  omega
theorem pow_828 (e : Nat) : 2 ^ (e + 828) * 8388608 = 2 ^ e * U 851 := by
  rw [U_add, show (8388608 : Nat) = 2 ^ 23 from rfl, ← Nat.pow_add]
theorem mul_log_le (a : Int) (h : sz a ≤ 1120927744) : RI (manI a * 12102203) (exI a + -23) ≤ 1125908480 := by
  have hv := val_le h
  rw [val_104] at hv
  have e1 : (manI a * 12102203).toNat = man (sz a) * 12102203 := by rw [manI_eq]; omega
  have e2 : (exI a + -23 + 1000).toNat = ex (sz a) + 828 := by rw [exI_eq]; omega
  have h1 : man (sz a) * 12102203 * 2 ^ (ex (sz a) + 828) ≤ V 1125908480 := by
    rw [VU, val_156]
    exact log_aux (man (sz a)) _ (2 ^ ex (sz a)) (U 851) (2 ^ 149) (pow_828 _) hv
  unfold RI
  rw [e1, e2]
  have := RR_mono h1
  rw [RR_V 1125908480 (by decide)] at this
  omega
theorem rne_small (m d : Nat) (h : m < 16777216) (hd : 17 ≤ d) : rne m d ≤ 128 := by
  have h1 : 2 ^ 17 ≤ 2 ^ d := Nat.pow_le_pow_right (by decide) hd
  have h2 : m / 2 ^ d ≤ m / 2 ^ 17 := Nat.div_le_div_left h1 (by decide)
  unfold rne; split <;> omega
theorem WH_small (p : Int) (h : sz p ≤ 1125908480) : WH (manI p) (exI p) ≤ 156 := by
  have hs := sz_eq p
  have m1 := manI_bd p
  have hx : exI p ≤ -16 := by unfold exI; split <;> omega
  unfold WH
  rw [if_pos (by omega)]
  by_cases h16 : exI p = -16
  · have hm : manI p ≤ 10223616 := by unfold exI at h16; unfold manI; split at h16 <;> split <;> omega
    rw [h16, show (- -16 : Int).toNat = 16 from rfl]
    unfold rne
    rw [show (2 : Nat) ^ 16 = 65536 from rfl]
    split <;> omega
  · have := rne_small (manI p).toNat (-exI p).toNat (by omega) (by omega)
    omega
theorem k_bd (a : Int) (h0 : 0 ≤ a) (h1 : a < 4294967296) (na : isNone a = false) (l1 : LESS 1118925335 a = false) (l2 : LESS a 3268407733 = false) : -156 ≤ EXPk a ∧ EXPk a ≤ 156 := by
  have hs := sz_eq a
  have p1 : plc a ≤ 1118925335 := by
    unfold LESS at l1
    rw [na, show isNone 1118925335 = false from by decide, show plc 1118925335 = 1118925335 from by decide] at l1
    simp at l1; omega
  have p2 : -1120924085 ≤ plc a := by
    unfold LESS at l2
    rw [na, show isNone 3268407733 = false from by decide, show plc 3268407733 = -1120924085 from by decide] at l2
    simp at l2; omega
  have hz : sz a ≤ 1120927744 := by unfold plc at p1 p2; split at p1 <;> (split at p2 <;> omega)
  have hle := mul_log_le a hz
  have hb := RI_bd (manI a * 12102203) (exI a + -23)
  have so := sgn2_or a 1069066811
  have hM : MUL a 1069066811 = sgn2 a 1069066811 + RI (manI a * 12102203) (exI a + -23) := by
    unfold MUL
    rw [if_neg (by rw [na]; decide), if_neg (by rw [inf_iff]; omega), if_neg (by decide), man_log.1, man_log.2]
  unfold EXPk
  rw [hM]
  generalize RI (manI a * 12102203) (exI a + -23) = t at *
  generalize sgn2 a 1069066811 = s at *
  have hw := WH_small (s + t) (by unfold sz; omega)
  have hw0 := (WH_bd (s + t)).1
  unfold TOI
  split
  · omega
  · split <;> omega
set_option maxHeartbeats 1000000 in
theorem exp_any (a : Int) (w : World) (h0 : 0 ≤ a) (h1 : a < 4294967296) :
    Calls Try.prog 33 #[.int .u32 a] w fun e w' => e = .returned (.int .u32 (EXP a)) ∧ Below w.heap.size w w' := by
  unfold EXP
  cases na : isNone a
  · rw [if_neg (by simp)]
    cases l1 : LESS 1118925335 a
    · rw [if_neg (by simp)]
      cases l2 : LESS a 3268407733
      · rw [if_neg (by simp)]; exact exp_fin a w h0 h1 na l1 l2 (k_bd a h0 h1 na l1 l2)
      · rw [if_pos rfl]
        go_enter Try.func33, Try.ntmps33
        go_wp2_with (first | (go_at_call 59; refine (none_any _ _ (by assumption) (by assumption)).mono ?_; rintro e w' ⟨rfl, rfl⟩) | (go_at_call 26; refine (less_any _ _ _ (by omega) (by omega) (by omega) (by omega)).mono ?_; rintro e w' ⟨rfl, rfl⟩))
        go_ret
        exact ⟨rfl, Below.refl _ _⟩
    · rw [if_pos rfl]
      go_enter Try.func33, Try.ntmps33
      go_wp2_with (first | (go_at_call 59; refine (none_any _ _ (by assumption) (by assumption)).mono ?_; rintro e w' ⟨rfl, rfl⟩) | (go_at_call 26; refine (less_any _ _ _ (by omega) (by omega) (by omega) (by omega)).mono ?_; rintro e w' ⟨rfl, rfl⟩))
      go_ret
      exact ⟨rfl, Below.refl _ _⟩
  · rw [if_pos rfl]
    go_enter Try.func33, Try.ntmps33
    go_wp2_with (first | (go_at_call 59; refine (none_any _ _ (by assumption) (by assumption)).mono ?_; rintro e w' ⟨rfl, rfl⟩))
    go_ret
    exact ⟨rfl, Below.refl _ _⟩
theorem EXP_bd (a : Int) : 0 ≤ EXP a ∧ EXP a < 4294967296 := by
  have := MUL_bd (MUL (polyK cExp (EXPr a) 6) (POW (EXPk a / 2))) (POW (EXPk a - EXPk a / 2))
  unfold EXP EXPf
  split
  · omega
  · split
    · omega
    · split <;> omega
/-- P4a -/
def SIG (a : Int) : Int := DIV 1065353216 (ADD 1065353216 (EXP ((a + 2147483648) % 4294967296)))
set_option maxHeartbeats 1000000 in
theorem sig_any (a : Int) (w : World) (h0 : 0 ≤ a) (h1 : a < 4294967296) :
    Calls Try.prog 34 #[.int .u32 a] w fun e w' => e = .returned (.int .u32 (SIG a)) ∧ Below w.heap.size w w' := by
  unfold SIG
  have eb := EXP_bd ((a + 2147483648) % 4294967296)
  have ab := ADD_bd 1065353216 (EXP ((a + 2147483648) % 4294967296)) (by decide) (by decide) eb.1 eb.2
  go_enter Try.func34, Try.ntmps34
  go_wp2_with (first | (go_at_call 61; refine (turned_any _ _ (by assumption) (by assumption)).mono ?_; rintro e w' ⟨rfl, rfl⟩))
  refine (exp_any _ _ (by omega) (by omega)).mono ?_
  rintro e w1 ⟨rfl, hb1⟩
  have HB1 : Hid _ := hb1
  clear hb1
  go_wp2_with (first | (go_at_call 16; refine (add_any _ _ _ (by omega) (by omega) (by omega) (by omega)).mono ?_; rintro e w' ⟨rfl, rfl⟩) | (go_at_call 22; refine (div_any _ _ _ (by omega) (by omega) (by omega) (by omega)).mono ?_; rintro e w' ⟨rfl, n, rfl⟩))
  go_ret
  exact ⟨rfl, below_drewN HB1.out _⟩
theorem SIG_bd (a : Int) : 0 ≤ SIG a ∧ SIG a < 4294967296 := DIV_bd _ _
def TANH (a : Int) : Int := SUB (MUL 1073741824 (SIG (MUL 1073741824 a))) 1065353216
set_option maxHeartbeats 1000000 in
theorem tanh_any (a : Int) (w : World) (h0 : 0 ≤ a) (h1 : a < 4294967296) :
    Calls Try.prog 35 #[.int .u32 a] w fun e w' => e = .returned (.int .u32 (TANH a)) ∧ Below w.heap.size w w' := by
  unfold TANH
  have b1 := MUL_bd 1073741824 a
  have b2 := SIG_bd (MUL 1073741824 a)
  have b3 := MUL_bd 1073741824 (SIG (MUL 1073741824 a))
  go_enter Try.func35, Try.ntmps35
  go_wp2_with (first | (go_at_call 21; refine (mul_any _ _ _ (by omega) (by omega) (by omega) (by omega)).mono ?_; rintro e w' ⟨rfl, rfl⟩))
  refine (sig_any _ _ (by omega) (by omega)).mono ?_
  rintro e w1 ⟨rfl, hb1⟩
  have HB1 : Hid _ := hb1
  clear hb1
  go_wp2_with (first | (go_at_call 21; refine (mul_any _ _ _ (by omega) (by omega) (by omega) (by omega)).mono ?_; rintro e w' ⟨rfl, rfl⟩) | (go_at_call 17; refine (sub_any _ _ _ (by omega) (by omega) (by omega) (by omega)).mono ?_; rintro e w' ⟨rfl, rfl⟩))
  go_ret
  exact ⟨rfl, HB1.out⟩
theorem cells5 (w : World) : ∀ j, j < 5 → (w.alloc (.cells #[.int .u32 936381697, .int .u32 3132492641, .int .u32 1026206379, .int .u32 3204448256, .int .u32 1065353216] 23)).cell? ⟨w.heap.size, j, none⟩ = some (.int .u32 (cCos j)) := by
  intro j hj
  match j, hj with
  | 0, _ => simp [go_sem, cCos]
  | 1, _ => simp [go_sem, cCos]
  | 2, _ => simp [go_sem, cCos]
  | 3, _ => simp [go_sem, cCos]
  | 4, _ => simp [go_sem, cCos]
def COS1 (b : Int) : Int := polyK cCos (MUL (MUL 1078530011 b) (MUL 1078530011 b)) 4
def COS (a : Int) : Int := if LESS 1056964608 a = true then (COS1 (SUB 1065353216 a) + 2147483648) % 4294967296 else COS1 a
theorem COS1_bd (b : Int) : 0 ≤ COS1 b ∧ COS1 b < 4294967296 := polyK_bd _ _ cCos_bd _
set_option maxHeartbeats 1000000 in
theorem cosine_any (b : Int) (w : World) (h0 : 0 ≤ b) (h1 : b < 4294967296) :
    Calls Try.prog 84 #[.int .u32 b] w fun e w' => e = .returned (.int .u32 (COS1 b)) ∧ Below w.heap.size w w' := by
  unfold COS1
  have b1 := MUL_bd 1078530011 b
  have b2 := MUL_bd (MUL 1078530011 b) (MUL 1078530011 b)
  go_enter Try.func84, Try.ntmps84
  go_wp2_with (first | (go_at_call 21; refine (mul_any _ _ _ (by omega) (by omega) (by omega) (by omega)).mono ?_; rintro e w' ⟨rfl, rfl⟩))
  refine (poly_any _ 5 cCos _ _ b2.1 b2.2 (by decide) (by decide) (cells5 _) cCos_bd).mono ?_
  rintro e w' ⟨rfl, rfl⟩
  go_wp2
  go_ret
  exact ⟨rfl, bel1 _ _⟩
set_option maxHeartbeats 1000000 in
theorem cos_any (a : Int) (w : World) (h0 : 0 ≤ a) (h1 : a < 4294967296) :
    Calls Try.prog 36 #[.int .u32 a] w fun e w' => e = .returned (.int .u32 (COS a)) ∧ Below w.heap.size w w' := by
  unfold COS
  have b1 := SUB_bd 1065353216 a (by decide) (by decide)
  have b2 := COS1_bd (SUB 1065353216 a)
  cases l : LESS 1056964608 a
  · rw [if_neg (by simp)]
    go_enter Try.func36, Try.ntmps36
    go_wp2_with (first | (go_at_call 26; refine (less_any _ _ _ (by omega) (by omega) (by omega) (by omega)).mono ?_; rintro e w' ⟨rfl, rfl⟩))
    refine (cosine_any _ _ (by omega) (by omega)).mono ?_
    rintro e w1 ⟨rfl, hb1⟩
    have HB1 : Hid _ := hb1
    clear hb1
    go_wp2
    go_ret
    exact ⟨rfl, HB1.out⟩
  · rw [if_pos rfl]
    go_enter Try.func36, Try.ntmps36
    go_wp2_with (first | (go_at_call 26; refine (less_any _ _ _ (by omega) (by omega) (by omega) (by omega)).mono ?_; rintro e w' ⟨rfl, rfl⟩) | (go_at_call 17; refine (sub_any _ _ _ (by omega) (by omega) (by omega) (by omega)).mono ?_; rintro e w' ⟨rfl, rfl⟩))
    refine (cosine_any _ _ (by omega) (by omega)).mono ?_
    rintro e w1 ⟨rfl, hb1⟩
    have HB1 : Hid _ := hb1
    clear hb1
    go_wp2_with (first | (go_at_call 61; refine (turned_any _ _ (by omega) (by omega)).mono ?_; rintro e w' ⟨rfl, rfl⟩))
    go_ret
    exact ⟨rfl, HB1.out⟩
end Go.Proofs.Ytkncmjnakjkndaa
