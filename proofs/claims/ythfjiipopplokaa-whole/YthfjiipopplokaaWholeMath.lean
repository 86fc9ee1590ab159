/-
  With whole numbers the arithmetic is exact: sums, differences, products, quotients that come out, roots of squares. Conditions: the numbers are below 2^24.
-/
import Derived.Test.YthfjiipopplokaaOrderMath
namespace Go.Proofs.Ythfjiipopplokaa
set_option linter.unusedVariables false
set_option linter.unusedSimpArgs false
theorem mpc (n u : Nat) : ((n * 2 ^ u : Nat) : Int) = (n : Int) * 2 ^ u := by push_cast; rfl
/-- the pattern of a whole number has its value -/
theorem whole_val (n : Nat) (h : n < 16777216) : ∃ p : Nat, RI n 0 = p ∧ val p = n * 2 ^ 149 ∧ p < 2139095040 := by
  by_cases hz : n = 0
  · subst hz; exact ⟨0, by rw [show ((0 : Nat) : Int) = 0 from rfl, RI_zero], by rw [val_zero, Nat.zero_mul], by decide⟩
  · have h1 := bl_lt n
    have h2 := bl_le n hz
    have hb : bl n ≤ 24 := by
      have h3 : 2 ^ (bl n - 1) < 2 ^ 24 := by omega
      have := (Nat.pow_lt_pow_iff_right (by decide : 1 < 2)).1 h3
      omega
    have hb0 : 0 < bl n := by unfold bl; split <;> omega
    have hp := pow_pos' (24 - bl n)
    have q1 : 8388608 ≤ n * 2 ^ (24 - bl n) := by
      have := Nat.mul_le_mul_right (2 ^ (24 - bl n)) h2
      rw [← Nat.pow_add, show bl n - 1 + (24 - bl n) = 23 from by omega] at this
      omega
    have q2 : n * 2 ^ (24 - bl n) < 16777216 := by
      have := Nat.mul_lt_mul_of_pos_right h1 hp
      rw [← Nat.pow_add, show bl n + (24 - bl n) = 24 from by omega] at this
      omega
    have e1 : RI n 0 = RI (n * 2 ^ (24 - bl n) : Nat) ((bl n : Int) - 24) := (RI_same n 0 (n * 2 ^ (24 - bl n) : Nat) ((bl n : Int) - 24) (by omega) (24 - bl n) (by push_cast; rfl) (by omega) (by omega)).symm
    rw [e1, RI_high _ _ (by omega) (by omega) (by omega)]
    obtain ⟨m1, m2⟩ := man_ex_of (bl n + 125) (n * 2 ^ (24 - bl n)) q2 (.inr q1)
    refine ⟨(bl n + 125) * 8388608 + n * 2 ^ (24 - bl n), by omega, ?_, by omega⟩
    unfold val
    rw [m1, m2, Nat.mul_assoc, ← Nat.pow_add, show 24 - bl n + (bl n + 125) = 149 from by omega]
theorem RZ_whole (n : Nat) : RZ (n * 2 ^ 149) = RI n 0 := by
  rw [RI_RZ n 0 (n * 2 ^ 149) (by decide) (by rw [Int.toNat_natCast]; rfl)]
/-- the pattern of a whole number: its sign, its size, its value -/
theorem from_ok (x : Int) (h0 : -16777216 < x) (h1 : x < 16777216) : 0 ≤ FROMI x ∧ FROMI x < 4294967296 ∧ FROMI x % 2147483648 < 2139095040 ∧ (2147483648 ≤ FROMI x ↔ x < 0) ∧ val (sz (FROMI x)) = x.natAbs * 2 ^ 149 ∧ (sz (FROMI x) : Int) = RI x.natAbs 0 := by
  obtain ⟨p, e, v, hp⟩ := whole_val x.natAbs (by omega)
  have hs := sz_eq (FROMI x)
  unfold FROMI at hs ⊢
  by_cases hx : x < 0
  · rw [if_pos hx] at hs ⊢
    have ex : -x = (x.natAbs : Int) := by omega
    rw [ex, e] at hs ⊢
    have hq : sz (2147483648 + (p : Int)) = p := by omega
    rw [hq]
    exact ⟨by omega, by omega, by omega, by omega, v, by omega⟩
  · rw [if_neg hx] at hs ⊢
    have ex : x = (x.natAbs : Int) := by omega
    rw [ex, e] at hs ⊢
    have hq : sz ((p : Int)) = p := by omega
    rw [hq, Int.natAbs_natCast]
    exact ⟨by omega, by omega, by omega, by omega, v, by omega⟩
theorem sv_from (x : Int) (h0 : -16777216 < x) (h1 : x < 16777216) : sv (FROMI x) = x * 2 ^ 149 := by
  obtain ⟨a, b, c, d, v, _⟩ := from_ok x h0 h1
  by_cases hx : x < 0
  · rw [sv_minus _ (d.2 hx), v]
    rw [mpc, ← Int.neg_mul]; congr 1; omega
  · rw [sv_plus _ (by omega), v]
    rw [mpc]; congr 1; omega
/-- a sum whose exact value is whole -/
theorem ADDf_whole (a b z : Int) (hz : sv a + sv b = z * 2 ^ 149) (hs : z = 0 → ¬ (2147483648 ≤ a ∧ 2147483648 ≤ b)) : ADDf a b = FROMI z := by
  unfold ADDf FROMI
  have hp : (0 : Int) < 2 ^ 149 := pos_pow 149
  by_cases h : z < 0
  · have h1 : sv a + sv b < 0 := by rw [hz]; exact Int.mul_neg_of_neg_of_pos h hp
    rw [if_pos h1, if_pos h, hz]
    have : (-(z * 2 ^ 149)).toNat = (-z).toNat * 2 ^ 149 := by rw [toNat_mul _ _ (by omega), Int.neg_mul]
    rw [this, RZ_whole, Int.toNat_of_nonneg (by omega)]
  · rw [if_neg h]
    by_cases g : z = 0
    · have h1 : sv a + sv b = 0 := by rw [hz, g, Int.zero_mul]
      rw [if_neg (by omega), if_neg (fun k => hs g k.2), h1, g, RI_zero, show (0 : Int).toNat = 0 from rfl, RZ_zero]
    · have h1 : 0 < sv a + sv b := by rw [hz]; exact Int.mul_pos (by omega) hp
      rw [if_neg (by omega), if_neg (by omega), hz]
      have : (z * 2 ^ 149).toNat = z.toNat * 2 ^ 149 := (toNat_mul _ _ (by omega)).symm
      rw [this, RZ_whole, Int.toNat_of_nonneg (by omega)]
theorem whole_add (x y : Int) (hx : -4001 < x ∧ x < 4001) (hy : -4001 < y ∧ y < 4001) : ADD (FROMI x) (FROMI y) = FROMI (x + y) := by
  obtain ⟨a1, a2, a3, a4, _, _⟩ := from_ok x (by omega) (by omega)
  obtain ⟨b1, b2, b3, b4, _, _⟩ := from_ok y (by omega) (by omega)
  rw [ADD_fin a3 b3]
  refine ADDf_whole _ _ _ ?_ ?_
  · rw [sv_from x (by omega) (by omega), sv_from y (by omega) (by omega), Int.add_mul]
  · intro h; rw [a4, b4]; omega
theorem whole_sub (x y : Int) (hx : -4001 < x ∧ x < 4001) (hy : -4001 < y ∧ y < 4001) : SUB (FROMI x) (FROMI y) = FROMI (x - y) := by
  obtain ⟨a1, a2, a3, a4, _, _⟩ := from_ok x (by omega) (by omega)
  obtain ⟨b1, b2, b3, b4, _, _⟩ := from_ok y (by omega) (by omega)
  unfold SUB
  rw [ADD_fin a3 (by omega)]
  refine ADDf_whole _ _ _ ?_ ?_
  · rw [sv_turned _ b1 b2, sv_from x (by omega) (by omega), sv_from y (by omega) (by omega), Int.sub_mul]; omega
  · intro h k
    have k1 := a4.1 k.1
    have : ¬ y < 0 := fun g => by have := b4.2 g; omega
    omega
theorem prod2 (m n a b u : Nat) : m * n * 2 ^ (a + (b + u)) = (m * 2 ^ a) * (n * 2 ^ b) * U u := by
  rw [Nat.pow_add, ← U_add b u]
  generalize 2 ^ a = p
  generalize 2 ^ b = q
  generalize U u = r
  simp only [Nat.mul_assoc, Nat.mul_left_comm, Nat.mul_comm]
/-- a product of patterns of whole numbers -/
theorem RI_prod (a b : Int) (m n k : Nat) (hk : k = 149) (ha : val (sz a) = m * 2 ^ k) (hb : val (sz b) = n * 2 ^ k) : RI (manI a * manI b) (exI a + exI b) = RI (m * n : Nat) 0 := by
  have x1 := exI_bd a
  have x2 := exI_bd b
  have e1 : (manI a * manI b).toNat = man (sz a) * man (sz b) := by
    rw [manI_eq, manI_eq, ← Int.natCast_mul, Int.toNat_natCast]
  have e2 : (exI a + exI b + 1000).toNat = ex (sz a) + (ex (sz b) + 702) := by rw [exI_eq, exI_eq]; omega
  have e3 : ((0 : Int) + 1000).toNat = k + (k + 702) := by rw [hk]; decide
  have e4 : ((m * n : Nat) : Int).toNat = m * n := Int.toNat_natCast _
  have key : man (sz a) * man (sz b) * 2 ^ (ex (sz a) + (ex (sz b) + 702)) = m * n * 2 ^ (k + (k + 702)) := by
    rw [prod2, prod2]
    unfold val at ha hb
    rw [ha, hb]
  unfold RI
  rw [e1, e2, key, e3, e4]
theorem sgn2_from (x y : Int) (hx : -16777216 < x ∧ x < 16777216) (hy : -16777216 < y ∧ y < 16777216) : sgn2 (FROMI x) (FROMI y) = if (x < 0 ↔ y < 0) then 0 else 2147483648 := by
  obtain ⟨a1, a2, a3, a4, _, _⟩ := from_ok x hx.1 hx.2
  obtain ⟨b1, b2, b3, b4, _, _⟩ := from_ok y hy.1 hy.2
  unfold sgn2
  by_cases h : (x < 0 ↔ y < 0)
  · rw [if_pos h, if_pos (by rw [← a4, ← b4] at h; omega)]
  · rw [if_neg h, if_neg (by rw [← a4, ← b4] at h; omega)]
theorem MUL_from (x y : Int) (hx : -16777216 < x ∧ x < 16777216) (hy : -16777216 < y ∧ y < 16777216) : MUL (FROMI x) (FROMI y) = (if (x < 0 ↔ y < 0) then 0 else 2147483648) + RI (x.natAbs * y.natAbs : Nat) 0 := by
  obtain ⟨a1, a2, a3, a4, va, _⟩ := from_ok x hx.1 hx.2
  obtain ⟨b1, b2, b3, b4, vb, _⟩ := from_ok y hy.1 hy.2
  unfold MUL
  rw [if_neg (by rw [none_iff, none_iff]; omega), if_neg (by rw [inf_iff]; omega), if_neg (by rw [inf_iff]; omega), sgn2_from x y hx hy, RI_prod _ _ x.natAbs y.natAbs 149 rfl va vb]
theorem natAbs_prod (x y : Int) : (x.natAbs * y.natAbs : Nat) = (x * y).natAbs := (Int.natAbs_mul x y).symm
theorem whole_mul (x y : Int) (hx : -4001 < x ∧ x < 4001) (hy : -4001 < y ∧ y < 4001) (hz : x * y ≠ 0) : MUL (FROMI x) (FROMI y) = FROMI (x * y) := by
  rw [MUL_from x y (by omega) (by omega), natAbs_prod]
  have hx0 : x ≠ 0 := fun h => hz (by rw [h, Int.zero_mul])
  have hy0 : y ≠ 0 := fun h => hz (by rw [h, Int.mul_zero])
  unfold FROMI
  by_cases h : (x < 0 ↔ y < 0)
  · have hp : 0 < x * y := by
      by_cases g : x < 0
      · exact Int.mul_pos_of_neg_of_neg g (h.1 g)
      · exact Int.mul_pos (by omega) (by have := mt h.2 g; omega)
    rw [if_pos h, if_neg (by omega), Int.zero_add, show (((x * y).natAbs : Nat) : Int) = x * y from by omega]
  · have hp : x * y < 0 := by
      by_cases g : x < 0
      · exact Int.mul_neg_of_neg_of_pos g (by have : ¬ y < 0 := fun k => h ⟨fun _ => k, fun _ => g⟩; omega)
      · exact Int.mul_neg_of_pos_of_neg (by omega) (by
          refine Int.lt_of_not_ge fun k => h ⟨fun r => absurd r g, fun r => ?_⟩
          omega)
    rw [if_neg h, if_pos hp, show (((x * y).natAbs : Nat) : Int) = -(x * y) from by omega]
/-- an exact value: its root, its quotient -/
theorem Rf_exact {f : Nat → Nat} (hf : ∀ a b, a < b → f a < f b) (X : Nat) : Rf f (f X) (R0 X) := by
  obtain ⟨l, u⟩ := R0_Rd X
  refine ⟨?_, ?_⟩
  · rcases l with l | l | l
    · exact .inl l
    · exact .inr (.inl (hf _ _ l))
    · exact .inr (.inr ⟨congrArg f l.1, l.2⟩)
  · rcases u with u | u
    · exact .inl (hf _ _ u)
    · exact .inr ⟨congrArg f u.1, u.2⟩
end Go.Proofs.Ythfjiipopplokaa
