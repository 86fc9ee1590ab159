/-
  What sums and products keep of order: which is first, 0 and 1, what is less. Conditions: as each theorem names them.
-/
import Derived.Test.YthfjiipopplokaaKeepWalk
namespace Go.Proofs.Ythfjiipopplokaa
set_option linter.unusedVariables false
set_option linter.unusedSimpArgs false
theorem ADD_comm (a b : Int) (h0 : 0 ≤ a) (h1 : a < 4294967296) (g0 : 0 ≤ b) (g1 : b < 4294967296) : ADD a b = ADD b a := by
  by_cases na : 2139095040 < a % 2147483648
  · rw [ADD_none (.inl (isNone_t na)), ADD_none (.inr (isNone_t na))]
  · by_cases nb : 2139095040 < b % 2147483648
    · rw [ADD_none (.inr (isNone_t nb)), ADD_none (.inl (isNone_t nb))]
    · by_cases ia : a % 2147483648 = 2139095040
      · by_cases ib : b % 2147483648 = 2139095040
        · rw [ADD_inf1 ia nb, ADD_inf1 ib na]
          by_cases h : b = (a + 2147483648) % 4294967296
          · rw [if_pos h, if_pos (by omega)]
          · rw [if_neg h, if_neg (by omega)]; omega
        · rw [ADD_inf1 ia nb, ADD_inf2 (by omega) ia, if_neg (by omega)]
      · by_cases ib : b % 2147483648 = 2139095040
        · rw [ADD_inf2 (by omega) ib, ADD_inf1 ib na, if_neg (by omega)]
        · rw [ADD_fin (by omega) (by omega), ADD_fin (by omega) (by omega), ADDf_comm]
theorem sgn2_comm (a b : Int) : sgn2 a b = sgn2 b a := by
  unfold sgn2
  by_cases h : a / 2147483648 = b / 2147483648
  · rw [if_pos h, if_pos h.symm]
  · rw [if_neg h, if_neg (fun g => h g.symm)]
theorem MUL_comm (a b : Int) : MUL a b = MUL b a := by
  unfold MUL
  rw [sgn2_comm b a, Int.mul_comm (manI b), Int.add_comm (exI b)]
  cases na : isNone a
  · cases nb : isNone b
    · cases ia : isInf a
      · cases ib : isInf b
        · simp
        · simp
      · cases ib : isInf b
        · simp
        · simp [inf_not_nil ia, inf_not_nil ib]
    · simp
  · simp
theorem FROMI_one : FROMI 1 = 1065353216 := by
  unfold FROMI
  rw [if_neg (by decide), ← RI_same 1 0 8388608 (-23) (by decide) 23 (by decide) (by decide) (by decide), RI_high 8388608 (-23) (by decide) (by decide) (by decide)]
  rfl
theorem sgn2_one (a : Int) (h0 : 0 ≤ a) (h1 : a < 4294967296) : sgn2 a 1065353216 = a / 2147483648 * 2147483648 := by
  unfold sgn2; split <;> omega
theorem MUL_one (a : Int) (h0 : 0 ≤ a) (h1 : a < 4294967296) (hn : ¬ 2139095040 < a % 2147483648) : MUL a 1065353216 = a := by
  have m1 := manI_bd a
  have x1 := exI_bd a
  unfold MUL
  rw [if_neg (by rw [none_iff, none_iff]; omega), sgn2_one a h0 h1, man_one.1, man_one.2]
  by_cases hi : a % 2147483648 = 2139095040
  · rw [if_pos ((inf_iff a).2 hi), if_neg (by decide)]; omega
  · rw [if_neg (by rw [inf_iff]; exact hi), if_neg (by decide)]
    have e : RI (manI a * 8388608) (exI a + -23) = RI (manI a) (exI a) := RI_same (manI a) (exI a) (manI a * 8388608) (exI a + -23) m1.1 23 rfl (by omega) (by omega)
    have := sz_eq a
    rw [e, RI_self a (by omega)]; omega
theorem DIV_one (a : Int) (h0 : 0 ≤ a) (h1 : a < 4294967296) (hn : ¬ 2139095040 < a % 2147483648) : DIV a 1065353216 = a := by
  have m1 := manI_bd a
  have x1 := exI_bd a
  have hu := upI_bd a
  have hs := sz_eq a
  unfold DIV
  rw [if_neg (by rw [none_iff, none_iff]; omega), sgn2_one a h0 h1]
  by_cases hi : a % 2147483648 = 2139095040
  · rw [if_pos ((inf_iff a).2 hi), if_neg (by decide)]; omega
  · rw [if_neg (by rw [inf_iff]; exact hi), if_neg (by decide)]
    by_cases hz : a % 2147483648 = 0
    · rw [if_pos (.inr (isNil_t hz))]; omega
    · rw [if_neg (by rw [isNil_f hz]; decide)]
      unfold DQ topI
      rw [man_one.1, man_one.2]
      have e2 : manI a * 2 ^ (upI a).toNat = manI a * 2 ^ ((upI a).toNat - 23) * 8388608 := by
        have : (upI a).toNat = ((upI a).toNat - 23) + 23 := by omega
        rw [this, Int.pow_add, ← Int.mul_assoc, show ((upI a).toNat - 23 + 23) - 23 = (upI a).toNat - 23 from by omega]; rfl
      rw [e2, Int.mul_ediv_cancel _ (by decide), Int.mul_emod_left]
      have e3 : stick (manI a * 2 ^ ((upI a).toNat - 23)) 0 = manI a * 2 ^ ((upI a).toNat - 23) := by unfold stick; rw [if_pos rfl]
      rw [e3, RI_same (manI a) (exI a) _ (exI a - upI a - -23) m1.1 ((upI a).toNat - 23) rfl (by omega) (by omega), RI_self a (by omega)]
      omega
theorem val_zero : val 0 = 0 := by decide
theorem ADD_null (a : Int) (h0 : 0 ≤ a) (h1 : a < 4294967296) (hn : ¬ 2139095040 < a % 2147483648) : ADD a 2147483648 = a := by
  have hs := sz_eq a
  by_cases hi : a % 2147483648 = 2139095040
  · rw [ADD_inf1 hi (by omega), if_neg (by omega)]
  · rw [ADD_fin (by omega) (by omega)]
    unfold ADDf
    have e0 : sv 2147483648 = 0 := by decide
    rw [e0, Int.add_zero]
    by_cases ha : a < 2147483648
    · rw [sv_plus a ha, if_neg (by omega), if_neg (by omega), Int.toNat_natCast, RZ_val _ (by omega)]; omega
    · rw [sv_minus a (by omega)]
      by_cases hz : sz a = 0
      · rw [hz, val_zero, if_neg (by decide), if_pos (by omega)]; omega
      · have := val_lt (show 0 < sz a by omega)
        rw [if_pos (by omega), Int.neg_neg, Int.toNat_natCast, RZ_val _ (by omega)]; omega
theorem sv_turned (a : Int) (h0 : 0 ≤ a) (h1 : a < 4294967296) : sv ((a + 2147483648) % 4294967296) = -sv a := by
  have e : sz ((a + 2147483648) % 4294967296) = sz a := by unfold sz; omega
  by_cases ha : a < 2147483648
  · rw [sv_plus a ha, sv_minus _ (by omega), e]
  · rw [sv_minus a (by omega), sv_plus _ (by omega), e, Int.neg_neg]
theorem SUB_self (a : Int) (h0 : 0 ≤ a) (h1 : a < 4294967296) (ha : a % 2147483648 < 2139095040) : SUB a a = 0 := by
  unfold SUB
  rw [ADD_fin ha (by omega)]
  unfold ADDf
  rw [sv_turned a h0 h1, if_neg (by omega), if_neg (by omega), show (sv a + -sv a).toNat = 0 from by omega, RZ_zero]
/-- a sum's place among the numbers, by its exact value -/
def F (z : Int) : Int := if z < 0 then -RZ (-z).toNat else RZ z.toNat
theorem F_mono {y z : Int} (h : y ≤ z) : F y ≤ F z := by
  unfold F
  split
  · split
    · have := RZ_mono (show (-z).toNat ≤ (-y).toNat by omega); omega
    · have := RZ_bd (-y).toNat; have := RZ_bd z.toNat; omega
  · rw [if_neg (by omega)]
    exact RZ_mono (by omega)
theorem plc_ADDf (a b : Int) : plc (ADDf a b) = F (sv a + sv b) := by
  unfold ADDf F
  have b1 := RZ_bd (-(sv a + sv b)).toNat
  have b2 := RZ_bd (sv a + sv b).toNat
  by_cases h : sv a + sv b < 0
  · rw [if_pos h, if_pos h]; unfold plc; rw [if_pos (by omega)]; omega
  · rw [if_neg h, if_neg h]
    by_cases g : sv a + sv b = 0 ∧ 2147483648 ≤ a ∧ 2147483648 ≤ b
    · rw [if_pos g, g.1]; rw [show (0 : Int).toNat = 0 from rfl, RZ_zero]; decide
    · rw [if_neg g]; unfold plc; rw [if_neg (by omega)]
theorem sv_le {a b : Int} (h0 : 0 ≤ a) (h1 : a < 4294967296) (g0 : 0 ≤ b) (g1 : b < 4294967296) (h : plc a ≤ plc b) : sv a ≤ sv b := by
  have sa := sz_eq a
  have sb := sz_eq b
  unfold plc at h
  by_cases ha : a < 2147483648
  · rw [if_neg (by omega)] at h
    by_cases hb : b < 2147483648
    · rw [if_neg (by omega)] at h
      rw [sv_plus a ha, sv_plus b hb]
      have := val_le (show sz a ≤ sz b by omega); omega
    · rw [if_pos (by omega)] at h
      have e1 : sz a = 0 := by omega
      have e2 : sz b = 0 := by omega
      rw [sv_plus a ha, sv_minus b (by omega), e1, e2, val_zero]; decide
  · rw [if_pos (by omega)] at h
    rw [sv_minus a (by omega)]
    by_cases hb : b < 2147483648
    · rw [sv_plus b hb]; omega
    · rw [if_pos (by omega)] at h
      rw [sv_minus b (by omega)]
      have := val_le (show sz b ≤ sz a by omega); omega
theorem plc_bd (a : Int) (h0 : 0 ≤ a) (h1 : a < 4294967296) (h : isNone a = false) : -2139095040 ≤ plc a ∧ plc a ≤ 2139095040 := by
  rw [none_iff'] at h
  unfold plc; split <;> omega
/-- what is less stays so, or comes to the same -/
theorem ADD_mono (a b c : Int) (h0 : 0 ≤ a) (h1 : a < 4294967296) (g0 : 0 ≤ b) (g1 : b < 4294967296) (c0 : 0 ≤ c) (c1 : c < 4294967296) (hl : LESS a b = true) : LESS (ADD b c) (ADD a c) = false := by
  have hna : isNone a = false := by unfold LESS at hl; revert hl; cases isNone a <;> simp
  have hnb : isNone b = false := by unfold LESS at hl; revert hl; cases isNone a <;> cases isNone b <;> simp
  have hp : plc a < plc b := by unfold LESS at hl; rw [hna, hnb] at hl; simpa using hl
  have na := (none_iff' a).1 hna
  have nb := (none_iff' b).1 hnb
  apply LESS_false
  intro ny nx
  by_cases nc : 2139095040 < c % 2147483648
  · rw [ADD_none (.inr (isNone_t nc))] at nx; exact absurd nx (by decide)
  · have pa := plc_bd a h0 h1 hna
    have pb := plc_bd b g0 g1 hnb
    have px := plc_bd _ (ADD_bd a c h0 h1 c0 c1).1 (ADD_bd a c h0 h1 c0 c1).2 nx
    have py := plc_bd _ (ADD_bd b c g0 g1 c0 c1).1 (ADD_bd b c g0 g1 c0 c1).2 ny
    by_cases ia : a % 2147483648 = 2139095040
    · have ha : plc a = -2139095040 := by unfold plc at hp pb ⊢; split <;> (split at hp <;> omega)
      rw [ADD_inf1 ia nc] at nx ⊢
      by_cases h : c = (a + 2147483648) % 4294967296
      · rw [if_pos h] at nx; exact absurd nx (by decide)
      · rw [if_neg h, ha]; exact py.1
    · by_cases ib : b % 2147483648 = 2139095040
      · have hb : plc b = 2139095040 := by unfold plc at hp pa ⊢; split <;> (split at hp <;> omega)
        rw [ADD_inf1 ib nc] at ny ⊢
        by_cases h : c = (b + 2147483648) % 4294967296
        · rw [if_pos h] at ny; exact absurd ny (by decide)
        · rw [if_neg h, hb]; exact px.2
      · by_cases ic : c % 2147483648 = 2139095040
        · rw [ADD_inf2 (by omega) ic, ADD_inf2 (by omega) ic]; exact Int.le_refl _
        · rw [ADD_fin (by omega) (by omega), ADD_fin (by omega) (by omega), plc_ADDf, plc_ADDf]
          have := sv_le h0 h1 g0 g1 (Int.le_of_lt hp)
          exact F_mono (by omega)
theorem LESS_anti (a b : Int) : (LESS a b && LESS b a) = false := by
  unfold LESS
  cases isNone a <;> cases isNone b <;> simp
  omega
theorem LESS_not (a b : Int) (h : LESS a b = true) : LESS b a = false := by
  have := LESS_anti a b; rw [h] at this; simpa using this
end Go.Proofs.Ythfjiipopplokaa
