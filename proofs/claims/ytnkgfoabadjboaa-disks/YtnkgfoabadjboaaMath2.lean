/-
  The plain mathematics of sums and products of patterns: what is shifted out cannot matter. No condition but that the patterns are numbers.
-/
import Derived.Test.YtnkgfoabadjboaaMath
namespace Go.Proofs.Ytnkgfoabadjboaa
def sz (a : Int) : Nat := (a % 2147483648).toNat
/-- a number's value with its sign, in units of 2^-149 -/
def sv (a : Int) : Int := if a < 2147483648 then (val (sz a) : Int) else -(val (sz a) : Int)
def U (e : Nat) : Nat := 2 ^ e
theorem U_pos (e : Nat) : 0 < U e := Nat.two_pow_pos e
theorem U_add (a b : Nat) : 2 ^ a * U b = 2 ^ (a + b) := (Nat.pow_add 2 a b).symm
theorem VU (p : Nat) : V p = val p * U 851 := by unfold V val; rw [Nat.mul_assoc, U_add]
def RZ (x : Nat) : Int := (RR (x * U 851) : Nat)
def manI (a : Int) : Int := if a % 2147483648 < 8388608 then a % 2147483648 else a % 8388608 + 8388608
def exI (a : Int) : Int := if a % 2147483648 < 8388608 then -149 else a % 2147483648 / 8388608 - 150
def ADDf (a b : Int) : Int :=
  if sv a + sv b < 0 then 2147483648 + RZ (-(sv a + sv b)).toNat
  else if sv a + sv b = 0 ∧ 2147483648 ≤ a ∧ 2147483648 ≤ b then 2147483648 else RZ (sv a + sv b).toNat
theorem ADDf_comm (a b : Int) : ADDf a b = ADDf b a := by
  unfold ADDf
  rw [Int.add_comm (sv b) (sv a)]
  split
  · rfl
  · split
    · rw [if_pos (by omega)]
    · rw [if_neg (by omega)]
theorem manI_eq (a : Int) : manI a = man (sz a) := by
  unfold manI man sz
  split
  · rw [if_pos (by omega)]; omega
  · rw [if_neg (by omega)]; omega
theorem exI_eq (a : Int) : exI a = ex (sz a) - 149 := by
  unfold exI ex sz
  split <;> omega
theorem exI_bd (a : Int) : -149 ≤ exI a ∧ exI a ≤ 105 := by
  unfold exI; split <;> omega
theorem manI_bd (a : Int) : 0 ≤ manI a ∧ manI a < 16777216 := by unfold manI; split <;> omega
theorem RZ_bd (x : Nat) : 0 ≤ RZ x ∧ RZ x ≤ 2139095040 := by unfold RZ; have := RR_le (x * U 851); omega
theorem RZ_zero : RZ 0 = 0 := by unfold RZ; simp [RR_zero]
theorem RZ_val (p : Nat) (h : p ≤ 2139095040) : RZ (val p) = p := by
  unfold RZ; rw [← VU, RR_V p h]
theorem RZ_mono {x y : Nat} (h : x ≤ y) : RZ x ≤ RZ y := by
  unfold RZ; have := RR_mono (Nat.mul_le_mul_right (U 851) h); omega
theorem val_le {p q : Nat} (h : p ≤ q) : val p ≤ val q := by
  have := V_le h
  rw [VU, VU] at this
  exact Nat.le_of_mul_le_mul_right this (U_pos 851)
theorem val_lt {p q : Nat} (h : p < q) : val p < val q := by
  have := V_mono h
  rw [VU, VU] at this
  exact Nat.lt_of_mul_lt_mul_right this
theorem ex_le {p q : Nat} (h : p ≤ q) : ex p ≤ ex q := by unfold ex; omega
/-- a whole number times 2^e as a multiple of 2^-149 -/
theorem RI_RZ (m e : Int) (x : Nat) (h : -149 ≤ e) (hx : m.toNat * 2 ^ (e + 149).toNat = x) : RI m e = RZ x := by
  unfold RI RZ
  rw [← hx, Nat.mul_assoc, U_add, show (e + 149).toNat + 851 = (e + 1000).toNat from by omega]

theorem R0_near (p c : Nat) (hp : 0 < p) (hc : c < 2 ^ (ex p + 849)) : R0 (V p + c) = p ∧ R0 (V p - c) = p :=
  ⟨R0_of (Rd_near p _ hp (by omega) (by omega)), R0_of (Rd_near p _ hp (by omega) (by omega))⟩
/-- what is far less does not matter -/
theorem far (p q : Nat) (h : ex q + 33 ≤ ex p) (hp : p ≤ 2139095040) : RZ (val p + val q) = p ∧ RZ (val p - val q) = p := by
  have hp0 : 0 < p := by unfold ex at h; omega
  have hc : val q * U 851 < 2 ^ (ex p + 849) := by
    unfold val
    have h1 : man q * 2 ^ ex q * U 851 < 16777216 * 2 ^ ex q * U 851 :=
      Nat.mul_lt_mul_of_pos_right (Nat.mul_lt_mul_of_pos_right (man_lt q) (pow_pos' _)) (U_pos _)
    refine Nat.lt_of_lt_of_le h1 ?_
    rw [show (16777216 : Nat) = 2 ^ 24 from rfl, ← Nat.pow_add, U_add]
    exact Nat.pow_le_pow_right (by decide) (by omega)
  obtain ⟨a, b⟩ := R0_near p _ hp0 hc
  unfold RZ RR
  rw [Nat.add_mul, Nat.sub_mul, ← VU, a, b]
  omega

theorem sv_plus (a : Int) (h : a < 2147483648) : sv a = val (sz a) := by unfold sv; rw [if_pos h]
theorem sv_minus (a : Int) (h : 2147483648 ≤ a) : sv a = -(val (sz a)) := by unfold sv; rw [if_neg (by omega)]
theorem ADDf_same (a b : Int) (h : a / 2147483648 = b / 2147483648) (h0 : 0 ≤ a) (h1 : a < 4294967296) : a / 2147483648 * 2147483648 + RZ (val (sz a) + val (sz b)) = ADDf a b := by
  unfold ADDf
  by_cases ha : a < 2147483648
  · rw [sv_plus a ha, sv_plus b (by omega), if_neg (by omega), if_neg (by omega)]
    rw [show ((val (sz a) : Int) + val (sz b)).toNat = val (sz a) + val (sz b) from by omega]; omega
  · rw [sv_minus a (by omega), sv_minus b (by omega)]
    by_cases hz : val (sz a) + val (sz b) = 0
    · rw [if_neg (by omega), if_pos (by omega), hz, RZ_zero]; omega
    · rw [if_pos (by omega), show (-(-(val (sz a) : Int) + -(val (sz b) : Int))).toNat = val (sz a) + val (sz b) from by omega]; omega
theorem ADDf_diff (a b : Int) (h : a / 2147483648 ≠ b / 2147483648) (h0 : 0 ≤ a) (h1 : a < 4294967296) (g0 : 0 ≤ b) (g1 : b < 4294967296) (hv : val (sz b) < val (sz a)) :
    a / 2147483648 * 2147483648 + RZ (val (sz a) - val (sz b)) = ADDf a b := by
  unfold ADDf
  by_cases ha : a < 2147483648
  · rw [sv_plus a ha, sv_minus b (by omega), if_neg (by omega), if_neg (by omega)]
    rw [show ((val (sz a) : Int) + -(val (sz b) : Int)).toNat = val (sz a) - val (sz b) from by omega]; omega
  · rw [sv_minus a (by omega), sv_plus b (by omega), if_pos (by omega), show (-(-(val (sz a) : Int) + (val (sz b) : Int))).toNat = val (sz a) - val (sz b) from by omega]; omega
theorem ADDf_null (a b : Int) (h : a / 2147483648 ≠ b / 2147483648) (hv : val (sz b) = val (sz a)) (h0 : 0 ≤ a) (h1 : a < 4294967296) (g0 : 0 ≤ b) (g1 : b < 4294967296) : ADDf a b = 0 := by
  unfold ADDf
  by_cases ha : a < 2147483648
  · rw [sv_plus a ha, sv_minus b (by omega), hv, if_neg (by omega), if_neg (by omega), show ((val (sz a) : Int) + -(val (sz a) : Int)).toNat = 0 from by omega, RZ_zero]
  · rw [sv_minus a (by omega), sv_plus b (by omega), hv, if_neg (by omega), if_neg (by omega), show (-(val (sz a) : Int) + (val (sz a) : Int)).toNat = 0 from by omega, RZ_zero]
/-- far apart: the greater one itself -/
theorem ADDf_far (a b : Int) (h0 : 0 ≤ a) (h1 : a < 4294967296) (g0 : 0 ≤ b) (g1 : b < 4294967296) (hs : sz b ≤ sz a) (h : exI b + 32 < exI a) (hf : sz a ≤ 2139095040) : ADDf a b = a := by
  rw [exI_eq, exI_eq] at h
  obtain ⟨e1, e2⟩ := far (sz a) (sz b) (by omega) hf
  have hv : val (sz b) < val (sz a) := val_lt (by
    rcases Nat.lt_or_eq_of_le hs with h' | h'
    · exact h'
    · rw [h'] at h; omega)
  have hz : a / 2147483648 * 2147483648 + sz a = a := by unfold sz; omega
  by_cases hd : a / 2147483648 = b / 2147483648
  · rw [← ADDf_same a b hd h0 h1, e1]; exact hz
  · rw [← ADDf_diff a b hd h0 h1 g0 g1 hv, e2]; exact hz
/-- brought to one power of 2 -/
theorem one_power (p q : Nat) (h : ex q ≤ ex p) : man p * 2 ^ (ex p - ex q) * 2 ^ ex q = val p := by
  unfold val; rw [Nat.mul_assoc, ← Nat.pow_add]; congr 2; omega
theorem RI_sum (a b : Int) (h : exI b ≤ exI a) :
    RI (manI a * 2 ^ (exI a - exI b).toNat + manI b) (exI a - (exI a - exI b)) = RZ (val (sz a) + val (sz b)) ∧
    (manI b ≤ manI a * 2 ^ (exI a - exI b).toNat → RI (manI a * 2 ^ (exI a - exI b).toNat - manI b) (exI a - (exI a - exI b)) = RZ (val (sz a) - val (sz b))) ∧
    (manI a * 2 ^ (exI a - exI b).toNat = manI b ↔ val (sz a) = val (sz b)) ∧ (sz b ≤ sz a → manI b ≤ manI a * 2 ^ (exI a - exI b).toNat) := by
  rw [manI_eq, manI_eq, exI_eq, exI_eq] at *
  have hx : ex (sz b) ≤ ex (sz a) := by omega
  have k := one_power (sz a) (sz b) hx
  rw [show ((ex (sz a) : Int) - 149 - (ex (sz b) - 149)).toNat = ex (sz a) - ex (sz b) from by omega]
  have e : (man (sz a) : Int) * 2 ^ (ex (sz a) - ex (sz b)) = ((man (sz a) * 2 ^ (ex (sz a) - ex (sz b)) : Nat) : Int) := by push_cast; rfl
  rw [e]
  have hp := pow_pos' (ex (sz b))
  refine ⟨?_, ?_, ?_, ?_⟩
  · apply RI_RZ
    · omega
    · rw [← k, show (((man (sz a) * 2 ^ (ex (sz a) - ex (sz b)) : Nat) : Int) + (man (sz b) : Int)).toNat = man (sz a) * 2 ^ (ex (sz a) - ex (sz b)) + man (sz b) from by omega]
      rw [show ((ex (sz a) : Int) - 149 - ((ex (sz a) : Int) - 149 - ((ex (sz b) : Int) - 149)) + 149).toNat = ex (sz b) from by omega, Nat.add_mul]
      rfl
  · intro hle
    apply RI_RZ
    · omega
    · rw [← k, show (((man (sz a) * 2 ^ (ex (sz a) - ex (sz b)) : Nat) : Int) - (man (sz b) : Int)).toNat = man (sz a) * 2 ^ (ex (sz a) - ex (sz b)) - man (sz b) from by omega]
      rw [show ((ex (sz a) : Int) - 149 - ((ex (sz a) : Int) - 149 - ((ex (sz b) : Int) - 149)) + 149).toNat = ex (sz b) from by omega, Nat.sub_mul]
      rfl
  · constructor
    · intro h'
      have : man (sz a) * 2 ^ (ex (sz a) - ex (sz b)) = man (sz b) := by omega
      rw [← k, this]; rfl
    · intro h'
      rw [← k] at h'
      have := Nat.eq_of_mul_eq_mul_right hp h'
      omega
  · intro hs
    have := val_le hs
    rw [← k] at this
    have := Nat.le_of_mul_le_mul_right this hp
    omega
end Go.Proofs.Ytnkgfoabadjboaa
