/-
  What sums, products, quotients and roots of patterns keep: order, 0 and 1, halves. Conditions: as each theorem names them.
-/
import Derived.Test.YtkncmjnakjkndaaInts
import Derived.Test.YtkncmjnakjkndaaSqrt
namespace Go.Proofs.Ytkncmjnakjkndaa
set_option linter.unusedVariables false
set_option linter.unusedSimpArgs false
theorem none_iff (a : Int) : isNone a = true ↔ 2139095040 < a % 2147483648 := by unfold isNone; simp
theorem none_iff' (a : Int) : isNone a = false ↔ ¬ 2139095040 < a % 2147483648 := by unfold isNone; simp
theorem inf_iff (a : Int) : isInf a = true ↔ a % 2147483648 = 2139095040 := by unfold isInf; simp
theorem inf_iff' (a : Int) : isInf a = false ↔ ¬ a % 2147483648 = 2139095040 := by unfold isInf; simp
theorem sz_eq (a : Int) : (sz a : Int) = a % 2147483648 := by unfold sz; omega
theorem ADD_none {a b : Int} (h : isNone a = true ∨ isNone b = true) : ADD a b = 2143289344 := by unfold ADD; rw [if_pos h]
theorem ADD_fin {a b : Int} (ha : a % 2147483648 < 2139095040) (hb : b % 2147483648 < 2139095040) : ADD a b = ADDf a b := by
  unfold ADD
  rw [if_neg (by rw [none_iff, none_iff]; omega), if_neg (by rw [inf_iff]; omega), if_neg (by rw [inf_iff]; omega)]
theorem ADD_inf1 {a b : Int} (ha : a % 2147483648 = 2139095040) (hb : ¬ 2139095040 < b % 2147483648) : ADD a b = if b = (a + 2147483648) % 4294967296 then 2143289344 else a := by
  unfold ADD
  rw [if_neg (by rw [none_iff, none_iff]; omega), if_pos (by rw [inf_iff]; omega)]
theorem ADD_inf2 {a b : Int} (ha : a % 2147483648 < 2139095040) (hb : b % 2147483648 = 2139095040) : ADD a b = b := by
  unfold ADD
  rw [if_neg (by rw [none_iff, none_iff]; omega), if_neg (by rw [inf_iff]; omega), if_pos (by rw [inf_iff]; omega)]
theorem plc_pos {a : Int} (h : a < 2147483648) : plc a = a := by unfold plc; rw [if_neg (by omega)]
theorem LESS_false {a b : Int} (h : isNone a = false → isNone b = false → plc b ≤ plc a) : LESS a b = false := by
  unfold LESS
  cases ha : isNone a
  · cases hb : isNone b
    · have := h ha hb; simp; omega
    · simp
  · simp
/-- sums of one sign do not fall below -/
theorem ADD_ge (x y : Int) (x0 : 0 ≤ x) (x1 : x ≤ 2139095040) (y0 : 0 ≤ y) (y1 : y ≤ 2139095040) : x ≤ ADD x y ∧ y ≤ ADD x y ∧ ADD x y ≤ 2139095040 := by
  by_cases hx : x = 2139095040
  · rw [ADD_inf1 (by omega) (by omega), if_neg (by omega)]; omega
  · by_cases hy : y = 2139095040
    · rw [ADD_inf2 (by omega) (by omega)]; omega
    · rw [ADD_fin (by omega) (by omega), ← ADDf_same x y (by omega) x0 (by omega)]
      have b := RZ_bd (val (sz x) + val (sz y))
      have h1 := RZ_mono (show val (sz x) ≤ val (sz x) + val (sz y) by omega)
      have h2 := RZ_mono (show val (sz y) ≤ val (sz x) + val (sz y) by omega)
      have e1 := sz_eq x
      have e2 := sz_eq y
      rw [RZ_val (sz x) (by omega)] at h1
      rw [RZ_val (sz y) (by omega)] at h2
      omega
theorem sgn2_pos {a b : Int} (h0 : 0 ≤ a) (ha : a < 2147483648) (g0 : 0 ≤ b) (hb : b < 2147483648) : sgn2 a b = 0 := by unfold sgn2; rw [if_pos (by omega)]
theorem man_half : manI 1056964608 = 8388608 ∧ exI 1056964608 = -24 := by decide
theorem man_one : manI 1065353216 = 8388608 ∧ exI 1065353216 = -23 := by decide
/-- the half of a number that is not too small -/
theorem MUL_half (x : Int) (x0 : 16777216 ≤ x) (x1 : x < 2139095040) : MUL x 1056964608 = x - 8388608 := by
  unfold MUL
  rw [if_neg (by rw [none_iff, none_iff]; omega), if_neg (by rw [inf_iff]; omega), if_neg (by decide), sgn2_pos (by omega) (by omega) (by decide) (by decide), man_half.1, man_half.2]
  have m1 := manI_bd x
  have e : RI (manI x * 8388608) (exI x + -24) = RI (manI x) (exI x - 1) := RI_same (manI x) (exI x - 1) (manI x * 8388608) (exI x + -24) m1.1 23 (by rfl) (by omega) (by have := exI_bd x; omega)
  have hm : 8388608 ≤ manI x := by unfold manI; rw [if_neg (by omega)]; omega
  have he : -148 ≤ exI x := by unfold exI; rw [if_neg (by omega)]; omega
  rw [e, RI_high (manI x) (exI x - 1) hm m1.2 (by omega)]
  unfold manI exI
  rw [if_neg (by omega), if_neg (by omega)]; omega
theorem half_twice (x : Int) (x0 : 16777216 ≤ x) (x1 : x ≤ 2139095040) : ADD (MUL x 1056964608) (MUL x 1056964608) = x := by
  by_cases hx : x = 2139095040
  · subst hx
    have e : MUL 2139095040 1056964608 = 2139095040 := by
      unfold MUL
      rw [if_neg (by decide), if_pos (by decide), if_neg (by decide), sgn2_pos (by decide) (by decide) (by decide) (by decide)]; rfl
    rw [e, ADD_inf1 (by decide) (by decide), if_neg (by decide)]
  · rw [MUL_half x x0 (by omega), ADD_fin (by omega) (by omega), ← ADDf_same _ _ rfl (by omega) (by omega)]
    have e1 := sz_eq (x - 8388608)
    have hs : sz x = sz (x - 8388608) + 8388608 := by have := sz_eq x; omega
    have hv : val (sz (x - 8388608)) + val (sz (x - 8388608)) = val (sz x) := by
      rw [hs]
      generalize hq : sz (x - 8388608) = q
      have hq0 : 8388608 ≤ q := by omega
      unfold val man ex
      rw [if_neg (by omega), if_neg (by omega), show (q + 8388608) % 8388608 = q % 8388608 from by omega, show (q + 8388608) / 8388608 - 1 = (q / 8388608 - 1) + 1 from by omega, Nat.pow_succ, ← Nat.mul_assoc]
      omega
    rw [hv, RZ_val _ (by have := sz_eq x; omega)]
    have := sz_eq x
    omega
theorem U_le (b a : Nat) (h : b ≤ a) : U b ≤ 2 ^ a := Nat.pow_le_pow_right (by decide) h
theorem SQ_pos (a : Int) (ma : manI a ≠ 0) : 0 < SQ a ∧ SQ a ≤ 2139095040 := by
  have xa := exI_bd a
  have hM := sqM_bd a ma
  have hub := upI_bd a
  have hevb : 39 ≤ evI a ∧ evI a ≤ 64 := by unfold evI; split <;> omega
  refine ⟨?_, (RI_bd _ _).2⟩
  obtain ⟨b1, b2⟩ := rt_spec (sqM a).toNat (by omega)
  have q : 1 ≤ rt (sqM a).toNat := by
    refine Nat.le_of_not_lt fun g => ?_
    have : rt (sqM a).toNat = 0 := by omega
    rw [this] at b2; omega
  have hst : 1 ≤ stick (rt (sqM a).toNat) (sqM a - rt (sqM a).toNat * rt (sqM a).toNat) := by
    unfold stick; split <;> (try split) <;> omega
  unfold SQ RI
  generalize stick (rt (sqM a).toNat) (sqM a - rt (sqM a).toNat * rt (sqM a).toNat) = t at *
  have h1 : V 1 ≤ t.toNat * 2 ^ ((exI a - evI a) / 2 + 1000).toNat := by
    rw [VU 1]
    refine Nat.mul_le_mul (show val 1 ≤ t.toNat from ?_) (U_le 851 _ (by omega))
    have : val 1 = 1 := by decide
    omega
  have := RR_mono h1
  rw [RR_V 1 (by decide)] at this
  omega
theorem SQRT_ok (x : Int) (x0 : 0 ≤ x) (x1 : x ≤ 2139095040) : 0 ≤ SQRT x ∧ SQRT x ≤ 2139095040 ∧ (x ≠ 0 → SQRT x ≠ 0) := by
  unfold SQRT
  by_cases h : x = 0
  · subst h; rw [if_pos (by decide)]; decide
  · have hn : isNil x = false := isNil_f (by omega)
    have hnn : isNone x = false := isNone_f (by omega)
    rw [hn, hnn, if_neg (by simp), if_neg (by simp; omega)]
    by_cases hi : x = 2139095040
    · subst hi; rw [if_pos (by decide)]; decide
    · rw [if_neg (by rw [inf_iff]; omega)]
      have := SQ_pos x (man_of_nil hn hnn)
      omega
end Go.Proofs.Ytkncmjnakjkndaa
