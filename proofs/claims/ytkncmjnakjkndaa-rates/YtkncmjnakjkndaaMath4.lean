/-
  The plain mathematics of the document's sum: what is too small to matter is a little more or less. Conditions: both are finite patterns.
-/
import Derived.Test.YtkncmjnakjkndaaMath3
namespace Go.Proofs.Ytkncmjnakjkndaa
def exZ (a b gap : Int) : Int := if gap ≤ 37 then 2 ^ gap.toNat * a + b else if 0 < b then 16 * a + 1 else if b < 0 then 16 * a - 1 else a
def exF (b ex ey : Int) : Int := if ex - ey ≤ 37 then ey else if b = 0 then ex else ex - 4
def ng (s : Bool) (m : Int) : Int := if s = true then -m else m
def isNeg (a : Int) : Bool := decide (2147483648 ≤ a)
theorem isNeg_t {a : Int} (h : 2147483648 ≤ a) : isNeg a = true := by unfold isNeg; simpa using h
theorem isNeg_f {a : Int} (h : ¬ 2147483648 ≤ a) : isNeg a = false := by unfold isNeg; simpa using h
theorem ng_sv (a : Int) : sv a = ng (isNeg a) (val (sz a)) := by
  by_cases h : 2147483648 ≤ a
  · rw [sv_minus a h, isNeg_t h]; rfl
  · rw [sv_plus a (by omega), isNeg_f h]; rfl
theorem ng_mul (s : Bool) (m k : Int) : ng s m * k = ng s (m * k) := by
  cases s
  · rfl
  · exact Int.neg_mul _ _
theorem ng_or (s : Bool) (m : Int) : ng s m = m ∨ ng s m = -m := by
  cases s
  · exact .inl rfl
  · exact .inr rfl
theorem pos_pow (n : Nat) : (0 : Int) < 2 ^ n := by
  have : (2 : Int) ^ n = ((2 ^ n : Nat) : Int) := by push_cast; rfl
  rw [this]; have := pow_pos' n; omega
theorem val_man (p : Nat) : (man p : Int) * 2 ^ ex p = (val p : Int) := by unfold val; push_cast; rfl
/-- at one power of 2 the whole number is the sum -/
theorem near_sum (a b : Int) (hle : exI b ≤ exI a) :
    (2 ^ (exI a - exI b).toNat * ng (isNeg a) (manI a) + ng (isNeg b) (manI b)) * 2 ^ ex (sz b) = sv a + sv b := by
  rw [manI_eq, manI_eq, exI_eq, exI_eq] at *
  rw [ng_sv a, ng_sv b, Int.add_mul, ng_mul, val_man]
  congr 1
  rw [Int.mul_comm (2 ^ _) (ng _ _), ng_mul, ng_mul, Int.mul_assoc, ← Int.pow_add, show ((ex (sz a) : Int) - 149 - (ex (sz b) - 149)).toNat + ex (sz b) = ex (sz a) from by omega, val_man]
theorem toNat_mul (z : Int) (k : Nat) (h : 0 ≤ z) : z.toNat * 2 ^ k = (z * 2 ^ k).toNat := by
  obtain ⟨n, rfl⟩ : ∃ n : Nat, z = n := ⟨z.toNat, by omega⟩
  have : (n : Int) * 2 ^ k = ((n * 2 ^ k : Nat) : Int) := by push_cast; rfl
  rw [this, Int.toNat_natCast, Int.toNat_natCast]
theorem near_ok (a b Z : Int) (hZ : Z * 2 ^ ex (sz b) = sv a + sv b) :
    (Z < 0 → RI (-Z) (exI b) + 2147483648 = ADDf a b) ∧ (0 < Z → RI Z (exI b) = ADDf a b) ∧ (Z = 0 → (if 2147483648 ≤ a ∧ 2147483648 ≤ b then 2147483648 else 0) = ADDf a b) := by
  have hp := pos_pow (ex (sz b))
  have he : (exI b + 149).toNat = ex (sz b) := by rw [exI_eq]; omega
  have he' := (exI_bd b).1
  unfold ADDf
  refine ⟨fun h => ?_, fun h => ?_, fun h => ?_⟩
  · have hs : sv a + sv b < 0 := by rw [← hZ]; exact Int.mul_neg_of_neg_of_pos h hp
    rw [if_pos hs, RI_RZ (-Z) (exI b) (-(sv a + sv b)).toNat he' (by rw [he, toNat_mul _ _ (by omega), Int.neg_mul, hZ])]; omega
  · have hs : 0 < sv a + sv b := by rw [← hZ]; exact Int.mul_pos h hp
    rw [if_neg (by omega), if_neg (by omega), RI_RZ Z (exI b) (sv a + sv b).toNat he' (by rw [he, toNat_mul _ _ (by omega), hZ])]
  · have hs : sv a + sv b = 0 := by rw [← hZ, h, Int.zero_mul]
    by_cases hc : 2147483648 ≤ a ∧ 2147483648 ≤ b
    · rw [hs, if_pos hc, if_neg (Int.lt_irrefl 0), if_pos ⟨rfl, hc⟩]
    · rw [hs, if_neg hc, if_neg (Int.lt_irrefl 0), if_neg (fun h => hc h.2), show (0 : Int).toNat = 0 from rfl, RZ_zero]
theorem le_mul_one {a b : Nat} (h : a ≤ b) : 2 ^ a ≤ 2 ^ b := Nat.pow_le_pow_right (by decide) h
/-- a little more or less -/
theorem little (a : Int) (hf : sz a < 2139095040) (hx : 4 ≤ ex (sz a)) : RI (16 * manI a + 1) (exI a - 4) = sz a ∧ RI (16 * manI a - 1) (exI a - 4) = sz a := by
  have hp0 : 0 < sz a := by unfold ex at hx; omega
  have hm := (manI_bd a).1
  have hm8 : 8388608 ≤ manI a := by rw [manI_eq]; unfold man; unfold ex at hx; split <;> omega
  have hc : 2 ^ (ex (sz a) + 847) < 2 ^ (ex (sz a) + 849) := Nat.pow_lt_pow_right (by decide) (by omega)
  obtain ⟨u, l⟩ := R0_near (sz a) _ hp0 hc
  have hV : V (sz a) = 16 * man (sz a) * 2 ^ (ex (sz a) + 847) := by
    unfold V
    rw [show ex (sz a) + 851 = 4 + (ex (sz a) + 847) from by omega, Nat.pow_add, ← Nat.mul_assoc, show (2 : Nat) ^ 4 = 16 from rfl, Nat.mul_comm 16]
  rw [hV] at u l
  have hz : (exI a - 4 + 1000).toNat = ex (sz a) + 847 := by rw [exI_eq]; omega
  unfold RI RR
  rw [hz, manI_eq]
  rw [manI_eq] at hm8
  constructor
  · rw [show (16 * (man (sz a) : Int) + 1).toNat = 16 * man (sz a) + 1 from by omega, Nat.add_mul, Nat.one_mul, u]; omega
  · rw [show (16 * (man (sz a) : Int) - 1).toNat = 16 * man (sz a) - 1 from by omega, Nat.sub_mul, Nat.one_mul, l]; omega
theorem RI_self (a : Int) (hf : sz a < 2139095040) : RI (manI a) (exI a) = sz a := by
  rw [RI_RZ (manI a) (exI a) (val (sz a)) (exI_bd a).1, RZ_val _ (by omega)]
  rw [exI_eq, manI_eq, show ((ex (sz a) : Int) - 149 + 149).toNat = ex (sz a) from by omega, Int.toNat_natCast]; rfl
/-- P2, as the document's answer makes it -/
theorem exact_ok (a b : Int) (h0 : 0 ≤ a) (h1 : a < 4294967296) (g0 : 0 ≤ b) (g1 : b < 4294967296) (ha : sz a < 2139095040) (hle : exI b ≤ exI a) (Z F : Int)
    (hZ : Z = exZ (ng (isNeg a) (manI a)) (ng (isNeg b) (manI b)) (exI a - exI b)) (hF : F = exF (ng (isNeg b) (manI b)) (exI a) (exI b)) :
    (Z < 0 → RI (-Z) F + 2147483648 = ADDf a b) ∧ (0 < Z → RI Z F = ADDf a b) ∧ (Z = 0 → (if 2147483648 ≤ a ∧ 2147483648 ≤ b then 2147483648 else 0) = ADDf a b) ∧
    -2305843009230471168 ≤ Z ∧ Z ≤ 2305843009230471168 ∧ -900 ≤ F ∧ F ≤ 900 := by
  have xa := exI_bd a
  have xb := exI_bd b
  have ma := manI_bd a
  have mb := manI_bd b
  by_cases hg : exI a - exI b ≤ 37
  · have hn := near_sum a b hle
    unfold exZ at hZ
    unfold exF at hF
    rw [if_pos hg] at hZ hF
    rw [← hZ] at hn
    obtain ⟨p, q, r⟩ := near_ok a b Z hn
    subst hF
    refine ⟨p, q, r, ?_⟩
    have hp : (2 : Int) ^ (exI a - exI b).toNat ≤ 137438953472 := by
      have h1 : (2 : Int) ^ (exI a - exI b).toNat = ((2 ^ (exI a - exI b).toNat : Nat) : Int) := by push_cast; rfl
      have := Nat.pow_le_pow_right (n := 2) (by decide) (show (exI a - exI b).toNat ≤ 37 by omega)
      rw [h1]; omega
    have hq := pos_pow (exI a - exI b).toNat
    have hm : 2 ^ (exI a - exI b).toNat * manI a ≤ 137438953472 * 16777215 := Int.mul_le_mul hp (by omega) ma.1 (by omega)
    have hm0 : 0 ≤ 2 ^ (exI a - exI b).toNat * manI a := Int.mul_nonneg (by omega) ma.1
    have e : 2 ^ (exI a - exI b).toNat * -manI a = -(2 ^ (exI a - exI b).toNat * manI a) := Int.mul_neg _ _
    clear hn p q r
    rcases ng_or (isNeg a) (manI a) with ea | ea
    · rcases ng_or (isNeg b) (manI b) with eb | eb
      · rw [ea, eb] at hZ
        generalize 2 ^ (exI a - exI b).toNat * manI a = T at *
        omega
      · rw [ea, eb] at hZ
        generalize 2 ^ (exI a - exI b).toNat * manI a = T at *
        omega
    · rcases ng_or (isNeg b) (manI b) with eb | eb
      · rw [ea, eb, e] at hZ
        generalize 2 ^ (exI a - exI b).toNat * manI a = T at *
        omega
      · rw [ea, eb, e] at hZ
        generalize 2 ^ (exI a - exI b).toNat * manI a = T at *
        omega
  · have hfar := ADDf_far a b h0 h1 g0 g1 (by
      have h1 := exI_eq a; have h2 := exI_eq b
      refine Nat.le_of_not_lt fun h => ?_
      have := ex_le (Nat.le_of_lt h)
      omega) (by omega) (by omega)
    have hx : 4 ≤ ex (sz a) := by have h1 := exI_eq a; have h2 := exI_eq b; omega
    obtain ⟨l1, l2⟩ := little a ha hx
    have l3 := RI_self a ha
    have hm8 : 8388608 ≤ manI a := by rw [manI_eq]; unfold man; unfold ex at hx; split <;> omega
    have hsz : (sz a : Int) = a % 2147483648 := by unfold sz; omega
    unfold exZ at hZ
    unfold exF at hF
    rw [if_neg hg] at hZ hF
    rw [hfar]
    by_cases na : 2147483648 ≤ a
    · rw [isNeg_t na] at hZ
      by_cases nb : 2147483648 ≤ b
      · rw [isNeg_t nb] at hZ hF
        simp only [ng, if_true] at hZ hF
        by_cases hz : manI b = 0
        · rw [if_neg (by omega), if_neg (by omega)] at hZ
          rw [if_pos (by omega)] at hF
          subst hZ hF
          rw [Int.neg_neg, l3]
          refine ⟨fun _ => by omega, fun h => by omega, fun h => by omega, by omega, by omega, by omega, by omega⟩
        · rw [if_neg (by omega), if_pos (by omega)] at hZ
          rw [if_neg (by omega)] at hF
          subst hZ hF
          rw [show -(16 * -manI a - 1) = 16 * manI a + 1 from by omega, l1]
          refine ⟨fun _ => by omega, fun h => by omega, fun h => by omega, by omega, by omega, by omega, by omega⟩
      · rw [isNeg_f nb] at hZ hF
        simp only [ng, if_true, if_false, Bool.false_eq_true] at hZ hF
        by_cases hz : manI b = 0
        · rw [if_neg (by omega), if_neg (by omega)] at hZ
          rw [if_pos (by omega)] at hF
          subst hZ hF
          rw [Int.neg_neg, l3]
          refine ⟨fun _ => by omega, fun h => by omega, fun h => by omega, by omega, by omega, by omega, by omega⟩
        · rw [if_pos (by omega)] at hZ
          rw [if_neg (by omega)] at hF
          subst hZ hF
          rw [show -(16 * -manI a + 1) = 16 * manI a - 1 from by omega, l2]
          refine ⟨fun _ => by omega, fun h => by omega, fun h => by omega, by omega, by omega, by omega, by omega⟩
    · rw [isNeg_f na] at hZ
      by_cases nb : 2147483648 ≤ b
      · rw [isNeg_t nb] at hZ hF
        simp only [ng, if_true, if_false, Bool.false_eq_true] at hZ hF
        by_cases hz : manI b = 0
        · rw [if_neg (by omega), if_neg (by omega)] at hZ
          rw [if_pos (by omega)] at hF
          subst hZ hF
          rw [l3]
          refine ⟨fun _ => by omega, fun h => by omega, fun h => by omega, by omega, by omega, by omega, by omega⟩
        · rw [if_neg (by omega), if_pos (by omega)] at hZ
          rw [if_neg (by omega)] at hF
          subst hZ hF
          rw [l2]
          refine ⟨fun _ => by omega, fun h => by omega, fun h => by omega, by omega, by omega, by omega, by omega⟩
      · rw [isNeg_f nb] at hZ hF
        simp only [ng, if_false, Bool.false_eq_true] at hZ hF
        by_cases hz : manI b = 0
        · rw [if_neg (by omega), if_neg (by omega)] at hZ
          rw [if_pos (by omega)] at hF
          subst hZ hF
          rw [l3]
          refine ⟨fun _ => by omega, fun h => by omega, fun h => by omega, by omega, by omega, by omega, by omega⟩
        · rw [if_pos (by omega)] at hZ
          rw [if_neg (by omega)] at hF
          subst hZ hF
          rw [l1]
          refine ⟨fun _ => by omega, fun h => by omega, fun h => by omega, by omega, by omega, by omega, by omega⟩
end Go.Proofs.Ytkncmjnakjkndaa
