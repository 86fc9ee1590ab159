/-
  The plain mathematics of quotients and roots: a rest leaves a bit below, and rounds as the true value does. Conditions: as each theorem names them.
-/
import Derived.Test.YtkncmjnakjkndaaMath4
namespace Go.Proofs.Ytkncmjnakjkndaa
/-- the bit is put behind the number -/
theorem Rf_sticky2 {f : Nat → Nat} (hf : ∀ a b, a < b → f a < f b) (A q k Q p : Nat) (hq : 16777216 ≤ q)
    (h1 : f (q * 2 ^ (k + 1)) ≤ A) (h2 : A < f ((q + 1) * 2 ^ (k + 1)))
    (hQ : (f (q * 2 ^ (k + 1)) = A ∧ Q = 2 * q) ∨ (f (q * 2 ^ (k + 1)) < A ∧ Q = 2 * q + 1))
    (hp : Rd (Q * 2 ^ k) p) : Rf f A p := by
  have hpk := pow_pos' k
  have hpk1 := pow_pos' (k + 1)
  have key : ∀ y, ((∃ j, y = j * 2 ^ (k + 1)) ∨ y < 2 ^ (k + 25)) →
      ((y < Q * 2 ^ k → f y < A) ∧ (y = Q * 2 ^ k → f y = A) ∧ (Q * 2 ^ k < y → A < f y)) := by
    intro y hy
    have e2 : ∀ j : Nat, j * 2 ^ (k + 1) = (2 * j) * 2 ^ k := fun j => by rw [Nat.pow_succ, Nat.mul_comm (2 ^ k) 2, ← Nat.mul_assoc, Nat.mul_comm j 2]
    have hqk : 2 ^ (k + 25) ≤ q * 2 ^ (k + 1) := by
      rw [show k + 25 = 24 + (k + 1) from by omega, Nat.pow_add]; exact Nat.mul_le_mul_right _ hq
    have hqQ : q * 2 ^ (k + 1) ≤ Q * 2 ^ k := by rw [e2]; exact Nat.mul_le_mul_right _ (by omega)
    rcases hy with ⟨j, rfl⟩ | hy
    · have hc : ∀ {a b : Nat}, a * 2 ^ k < b * 2 ^ k ↔ a < b := fun {a b} => ⟨fun h => Nat.lt_of_mul_lt_mul_right h, fun h => Nat.mul_lt_mul_of_pos_right h hpk⟩
      have hfm : ∀ {a b : Nat}, a ≤ b → f (a * 2 ^ (k + 1)) ≤ f (b * 2 ^ (k + 1)) := by
        intro a b h
        rcases Nat.lt_or_eq_of_le h with h | h
        · exact Nat.le_of_lt (hf _ _ (Nat.mul_lt_mul_of_pos_right h hpk1))
        · rw [h]; exact Nat.le_refl _
      refine ⟨fun h => ?_, fun h => ?_, fun h => ?_⟩
      · rw [e2] at h
        have h := hc.1 h
        rcases hQ with ⟨e, rfl⟩ | ⟨e, rfl⟩
        · rw [← e]; exact hf _ _ (Nat.mul_lt_mul_of_pos_right (by omega) hpk1)
        · exact Nat.lt_of_le_of_lt (hfm (by omega)) e
      · rw [e2] at h
        have h : 2 * j = Q := Nat.eq_of_mul_eq_mul_right hpk h
        rcases hQ with ⟨e, rfl⟩ | ⟨e, rfl⟩
        · rw [show j = q from by omega, e]
        · omega
      · rw [e2] at h
        have h := hc.1 h
        rcases hQ with ⟨e, rfl⟩ | ⟨e, rfl⟩
        · rw [← e]; exact hf _ _ (Nat.mul_lt_mul_of_pos_right (by omega) hpk1)
        · exact Nat.lt_of_lt_of_le h2 (hfm (by omega))
    · refine ⟨fun _ => ?_, fun h => ?_, fun h => ?_⟩
      · exact Nat.lt_of_lt_of_le (hf y (q * 2 ^ (k + 1)) (by omega)) h1
      · omega
      · omega
  obtain ⟨l, u⟩ := hp
  refine ⟨?_, ?_⟩
  · rcases l with l | l | l
    · exact .inl l
    · exact .inr (.inl ((key _ (mid_or k (p - 1))).1 l))
    · exact .inr (.inr ⟨(key _ (mid_or k (p - 1))).2.1 l.1, l.2⟩)
  · rcases u with u | u
    · exact .inl ((key _ (mid_or k p)).2.2 u)
    · exact .inr ⟨((key _ (mid_or k p)).2.1 u.1.symm).symm, u.2⟩
/-- a rest leaves a bit (whole numbers) -/
def stickN (q r : Nat) : Nat := if r = 0 then q else if q % 2 = 0 then q + 1 else q
theorem mul_mono {B : Nat} (hB : 0 < B) : ∀ a b, a < b → a * B < b * B := fun _ _ h => Nat.mul_lt_mul_of_pos_right h hB
theorem mulp (a b c d : Nat) (h : c + d = b) : a * 2 ^ c * 2 ^ d = a * 2 ^ b := by rw [Nat.mul_assoc, ← Nat.pow_add, h]
/-- a quotient of 40 bits or more, the bit set within it -/
theorem div_one (A B up k D : Nat) (hB : 0 < B) (hq : 33554432 ≤ A * 2 ^ up / B) (hD : up + k = D) :
    Rf (· * B) (A * 2 ^ D) (R0 (stickN (A * 2 ^ up / B) (A * 2 ^ up % B) * 2 ^ k)) := by
  have hm := Nat.div_add_mod (A * 2 ^ up) B
  have hr := Nat.mod_lt (A * 2 ^ up) hB
  have hA : A * 2 ^ D = A * 2 ^ up * 2 ^ k := by rw [mulp]; exact hD
  have hpk := pow_pos' k
  refine Rf_sticky (mul_mono hB) _ (A * 2 ^ up / B) k _ _ hq ?_ ?_ ?_ (R0_Rd _)
  · rw [hA]
    show A * 2 ^ up / B * 2 ^ k * B ≤ _
    rw [Nat.mul_right_comm (A * 2 ^ up / B) (2 ^ k) B]
    exact Nat.mul_le_mul_right _ (Nat.div_mul_le_self _ _)
  · rw [hA]
    show _ < (A * 2 ^ up / B + 1) * 2 ^ k * B
    rw [Nat.mul_right_comm (A * 2 ^ up / B + 1) (2 ^ k) B]
    refine Nat.mul_lt_mul_of_pos_right ?_ hpk
    rw [Nat.add_mul, Nat.one_mul, Nat.mul_comm (A * 2 ^ up / B) B]; omega
  · have hc : A * 2 ^ up / B * 2 ^ k * B = B * (A * 2 ^ up / B) * 2 ^ k := by rw [Nat.mul_right_comm, Nat.mul_comm (A * 2 ^ up / B) B]
    show (A * 2 ^ up / B * 2 ^ k * B = _ ∧ _) ∨ (A * 2 ^ up / B * 2 ^ k * B < _ ∧ _) ∨ (A * 2 ^ up / B * 2 ^ k * B < _ ∧ _)
    rw [hc, hA]
    by_cases h0 : A * 2 ^ up % B = 0
    · left
      refine ⟨by congr 1; omega, ?_⟩
      unfold stickN; rw [if_pos h0]
    · right
      have hlt : B * (A * 2 ^ up / B) * 2 ^ k < A * 2 ^ up * 2 ^ k := Nat.mul_lt_mul_of_pos_right (by omega) hpk
      unfold stickN; rw [if_neg h0]
      by_cases hp : A * 2 ^ up / B % 2 = 0
      · right; rw [if_pos hp]; exact ⟨hlt, rfl, hp⟩
      · left; rw [if_neg hp]; exact ⟨hlt, rfl, by omega⟩
/-- a quotient of both made full, the bit set behind it -/
theorem div_two (A B u1 u2 k D : Nat) (hB : 0 < B) (h1 : 8388608 ≤ A * 2 ^ u1) (h2 : B * 2 ^ u2 < 16777216) (hD : u1 + 36 + (k + 1) = D + u2) :
    Rf (· * B) (A * 2 ^ D) (R0 ((2 * (A * 2 ^ u1 * 2 ^ 36 / (B * 2 ^ u2)) + if A * 2 ^ u1 * 2 ^ 36 % (B * 2 ^ u2) = 0 then 0 else 1) * 2 ^ k)) := by
  have hC : 0 < B * 2 ^ u2 := Nat.mul_pos hB (pow_pos' u2)
  have hm := Nat.div_add_mod (A * 2 ^ u1 * 2 ^ 36) (B * 2 ^ u2)
  have hr := Nat.mod_lt (A * 2 ^ u1 * 2 ^ 36) hC
  have hpk := pow_pos' (k + 1)
  have hpu := pow_pos' u2
  have hq : 16777216 ≤ A * 2 ^ u1 * 2 ^ 36 / (B * 2 ^ u2) := by
    rw [Nat.le_div_iff_mul_le hC]
    refine Nat.le_trans (Nat.mul_le_mul_left _ (Nat.le_of_lt h2)) ?_
    rw [show (16777216 : Nat) * 16777216 = 4096 * 2 ^ 36 from rfl]
    exact Nat.mul_le_mul_right _ (by omega)
  have hN : A * 2 ^ u1 * 2 ^ 36 * 2 ^ (k + 1) = A * 2 ^ D * 2 ^ u2 := by
    rw [Nat.mul_assoc, Nat.mul_assoc, ← Nat.pow_add, ← Nat.pow_add, Nat.mul_assoc, ← Nat.pow_add]; congr 2; omega
  generalize A * 2 ^ u1 * 2 ^ 36 = N at *
  generalize hqq : N / (B * 2 ^ u2) = q at *
  generalize N % (B * 2 ^ u2) = r at *
  have hx : ∀ z : Nat, z * 2 ^ (k + 1) * B * 2 ^ u2 = B * 2 ^ u2 * z * 2 ^ (k + 1) := by
    intro z
    rw [Nat.mul_comm (B * 2 ^ u2) z, Nat.mul_assoc z _ (2 ^ (k + 1)), Nat.mul_comm (B * 2 ^ u2) (2 ^ (k + 1)), Nat.mul_assoc, Nat.mul_assoc]
  refine Rf_sticky2 (mul_mono hB) _ q k _ _ hq ?_ ?_ ?_ (R0_Rd _)
  · show q * 2 ^ (k + 1) * B ≤ _
    refine Nat.le_of_mul_le_mul_right ?_ hpu
    rw [hx, ← hN]
    exact Nat.mul_le_mul_right _ (by omega)
  · show _ < (q + 1) * 2 ^ (k + 1) * B
    refine Nat.lt_of_mul_lt_mul_right (a := 2 ^ u2) ?_
    rw [hx, ← hN]
    refine Nat.mul_lt_mul_of_pos_right ?_ hpk
    rw [Nat.mul_add, Nat.mul_one]; omega
  · show (q * 2 ^ (k + 1) * B = _ ∧ _) ∨ (q * 2 ^ (k + 1) * B < _ ∧ _)
    by_cases h0 : r = 0
    · left
      rw [if_pos h0]
      refine ⟨Nat.eq_of_mul_eq_mul_right hpu ?_, by omega⟩
      rw [hx, ← hN]; congr 1; omega
    · right
      rw [if_neg h0]
      refine ⟨Nat.lt_of_mul_lt_mul_right (a := 2 ^ u2) ?_, rfl⟩
      rw [hx, ← hN]
      exact Nat.mul_lt_mul_of_pos_right (by omega) hpk
theorem sq_mono : ∀ a b : Nat, a < b → a * a < b * b := fun _ _ h => Nat.mul_self_lt_mul_self h
theorem sq_pow (r k : Nat) : r * 2 ^ k * (r * 2 ^ k) = r * r * 2 ^ (2 * k) := by
  rw [show 2 * k = k + k from by omega, Nat.pow_add]
  rw [Nat.mul_assoc, Nat.mul_left_comm (2 ^ k) r, ← Nat.mul_assoc, ← Nat.mul_assoc]
/-- a root of 26 bits or more, the bit set within it: A times 2^up is m, the power is even -/
theorem root_one (A m r k D : Nat) (hm : m * 2 ^ (2 * k) = A * 2 ^ D) (hr : r * r ≤ m) (hr1 : m < (r + 1) * (r + 1)) (hq : 33554432 ≤ r) :
    Rf (fun y => y * y) (A * 2 ^ D) (R0 (stickN r (m - r * r) * 2 ^ k)) := by
  have hpk := pow_pos' (2 * k)
  refine Rf_sticky sq_mono _ r k _ _ hq ?_ ?_ ?_ (R0_Rd _)
  · show r * 2 ^ k * (r * 2 ^ k) ≤ _
    rw [sq_pow, ← hm]; exact Nat.mul_le_mul_right _ hr
  · show _ < (r + 1) * 2 ^ k * ((r + 1) * 2 ^ k)
    rw [sq_pow, ← hm]; exact Nat.mul_lt_mul_of_pos_right hr1 hpk
  · show (r * 2 ^ k * (r * 2 ^ k) = _ ∧ _) ∨ (r * 2 ^ k * (r * 2 ^ k) < _ ∧ _) ∨ (r * 2 ^ k * (r * 2 ^ k) < _ ∧ _)
    rw [sq_pow, ← hm]
    by_cases h0 : m - r * r = 0
    · left
      refine ⟨by congr 1; omega, ?_⟩
      unfold stickN; rw [if_pos h0]
    · right
      have hlt : r * r * 2 ^ (2 * k) < m * 2 ^ (2 * k) := Nat.mul_lt_mul_of_pos_right (by omega) hpk
      unfold stickN; rw [if_neg h0]
      by_cases hp : r % 2 = 0
      · right; rw [if_pos hp]; exact ⟨hlt, rfl, hp⟩
      · left; rw [if_neg hp]; exact ⟨hlt, rfl, by omega⟩
/-- a root, the bit set behind it -/
theorem root_two (A m r k D : Nat) (hm : m * 2 ^ (2 * (k + 1)) = A * 2 ^ D) (hr : r * r ≤ m) (hr1 : m < (r + 1) * (r + 1)) (hq : 16777216 ≤ r) :
    Rf (fun y => y * y) (A * 2 ^ D) (R0 ((2 * r + if r * r = m then 0 else 1) * 2 ^ k)) := by
  have hpk := pow_pos' (2 * (k + 1))
  refine Rf_sticky2 sq_mono _ r k _ _ hq ?_ ?_ ?_ (R0_Rd _)
  · show r * 2 ^ (k + 1) * (r * 2 ^ (k + 1)) ≤ _
    rw [sq_pow, ← hm]; exact Nat.mul_le_mul_right _ hr
  · show _ < (r + 1) * 2 ^ (k + 1) * ((r + 1) * 2 ^ (k + 1))
    rw [sq_pow, ← hm]; exact Nat.mul_lt_mul_of_pos_right hr1 hpk
  · show (r * 2 ^ (k + 1) * (r * 2 ^ (k + 1)) = _ ∧ _) ∨ (r * 2 ^ (k + 1) * (r * 2 ^ (k + 1)) < _ ∧ _)
    rw [sq_pow, ← hm]
    by_cases h0 : r * r = m
    · left; rw [if_pos h0]; exact ⟨by rw [h0], by omega⟩
    · right; rw [if_neg h0]; exact ⟨Nat.mul_lt_mul_of_pos_right (by omega) hpk, rfl⟩
end Go.Proofs.Ytkncmjnakjkndaa
