/-
  The plain mathematics of rounding to 32-bit floating-point patterns: a rounded value is told apart by the halfway places beside it, and there is just one such pattern. No condition; nothing of Go is in sight.
-/
import Init
namespace Go.Proofs.Ytnkgfoabadjboaa

/-- A pattern without its sign is 'man p' times 2^('ex p' - 149). -/
def man (p : Nat) : Nat := if p < 8388608 then p else 8388608 + p % 8388608
def ex (p : Nat) : Nat := p / 8388608 - 1
/-- Its value in units of 2^-149. -/
def val (p : Nat) : Nat := man p * 2 ^ ex p
/-- Its value in units of 2^-1000. -/
def V (p : Nat) : Nat := man p * 2 ^ (ex p + 851)
/-- The place halfway to the next pattern, in units of 2^-1000. -/
def mid (p : Nat) : Nat := (2 * man p + 1) * 2 ^ (ex p + 850)

theorem man_lt (p : Nat) : man p < 16777216 := by unfold man; split <;> omega
theorem V_val (p : Nat) : V p = val p * 2 ^ 851 := by unfold V val; rw [Nat.pow_add, Nat.mul_assoc]

theorem V_succ (p : Nat) : V (p + 1) = (man p + 1) * 2 ^ (ex p + 851) := by
  unfold V man ex
  by_cases h : p + 1 < 8388608
  · have h' : p < 8388608 := by omega
    have e1 : (p + 1) / 8388608 - 1 = 0 := by omega
    have e2 : p / 8388608 - 1 = 0 := by omega
    rw [if_pos h, if_pos h', e1, e2]
  · by_cases h' : p < 8388608
    · have e1 : (p + 1) / 8388608 - 1 = 0 := by omega
      have e2 : p / 8388608 - 1 = 0 := by omega
      rw [if_neg h, if_pos h', e1, e2]
      congr 1; omega
    · rw [if_neg h, if_neg h']
      by_cases hb : p % 8388608 = 8388607
      · have e1 : (p + 1) / 8388608 - 1 = p / 8388608 - 1 + 1 := by omega
        have e2 : (p + 1) % 8388608 = 0 := by omega
        rw [e1, e2, hb, show p / 8388608 - 1 + 1 + 851 = (p / 8388608 - 1 + 851) + 1 from by omega, Nat.pow_succ]
        omega
      · have e1 : (p + 1) / 8388608 - 1 = p / 8388608 - 1 := by omega
        have e2 : (p + 1) % 8388608 = p % 8388608 + 1 := by omega
        rw [e1, e2]; congr 1

theorem pow_pos' (n : Nat) : 0 < 2 ^ n := Nat.two_pow_pos n

theorem p851 (x : Nat) : 2 ^ (x + 851) = 2 ^ (x + 850) * 2 := Nat.pow_succ (n := 2) (m := x + 850)

theorem V_lt_mid (p : Nat) : V p < mid p := by
  unfold V mid
  have := pow_pos' (ex p + 850)
  rw [p851]
  generalize 2 ^ (ex p + 850) = t at *
  have : (2 * man p + 1) * t = man p * (t * 2) + t := by rw [Nat.add_mul, Nat.one_mul, Nat.mul_comm t 2, ← Nat.mul_assoc, Nat.mul_comm (man p) 2]
  omega
theorem mid_lt_V (p : Nat) : mid p < V (p + 1) := by
  rw [V_succ]; unfold mid
  have := pow_pos' (ex p + 850)
  rw [p851]
  generalize 2 ^ (ex p + 850) = t at *
  have : (2 * man p + 1) * t = man p * (t * 2) + t := by rw [Nat.add_mul, Nat.one_mul, Nat.mul_comm t 2, ← Nat.mul_assoc, Nat.mul_comm (man p) 2]
  have : (man p + 1) * (t * 2) = man p * (t * 2) + t * 2 := by rw [Nat.add_mul, Nat.one_mul]
  omega
theorem V_mono {p q : Nat} (h : p < q) : V p < V q := by
  induction q with
  | zero => omega
  | succ q ih =>
    have h1 := Nat.lt_trans (V_lt_mid q) (mid_lt_V q)
    by_cases e : p = q
    · subst e; exact h1
    · exact Nat.lt_trans (ih (by omega)) h1
theorem V_le {p q : Nat} (h : p ≤ q) : V p ≤ V q := by
  by_cases e : p = q
  · subst e; exact Nat.le_refl _
  · exact Nat.le_of_lt (V_mono (by omega))
theorem mid_mono {p q : Nat} (h : p < q) : mid p < mid q :=
  Nat.lt_of_lt_of_le (mid_lt_V p) (Nat.le_trans (V_le h) (Nat.le_of_lt (V_lt_mid q)))
theorem mid_le {p q : Nat} (h : p ≤ q) : mid p ≤ mid q := by
  by_cases e : p = q
  · subst e; exact Nat.le_refl _
  · exact Nat.le_of_lt (mid_mono (by omega))

/-- 'p' is what the value rounds to whose image under 'f' is 'A' ('f' rises: the number itself, a multiple, a square). -/
def Rf (f : Nat → Nat) (A p : Nat) : Prop :=
  (p = 0 ∨ f (mid (p - 1)) < A ∨ (f (mid (p - 1)) = A ∧ p % 2 = 0)) ∧ (A < f (mid p) ∨ (A = f (mid p) ∧ p % 2 = 0))

theorem Rf_le {f : Nat → Nat} (hf : ∀ a b, a < b → f a < f b) {A B p q : Nat} (hAB : A ≤ B) (hp : Rf f A p) (hq : Rf f B q) : p ≤ q := by
  refine Nat.le_of_not_lt fun h => ?_
  obtain ⟨a1, _⟩ := hp
  obtain ⟨_, b2⟩ := hq
  have hm : mid q ≤ mid (p - 1) := mid_le (by omega)
  by_cases e : q = p - 1
  · subst e
    omega
  · have hlt := hf _ _ (mid_mono (show q < p - 1 by omega))
    omega
theorem Rf_unique {f : Nat → Nat} (hf : ∀ a b, a < b → f a < f b) {A p q : Nat} (hp : Rf f A p) (hq : Rf f A q) : p = q :=
  Nat.le_antisymm (Rf_le hf (Nat.le_refl _) hp hq) (Rf_le hf (Nat.le_refl _) hq hp)

/-- 'p' is what the value X (in units of 2^-1000) rounds to, if there were no greatest pattern. -/
abbrev Rd (X p : Nat) : Prop := Rf (fun y => y) X p
theorem Rd_le {A B p q : Nat} (hAB : A ≤ B) (hp : Rd A p) (hq : Rd B q) : p ≤ q := Rf_le (fun _ _ h => h) hAB hp hq
theorem Rd_unique {A p q : Nat} (hp : Rd A p) (hq : Rd A q) : p = q := Rf_unique (fun _ _ h => h) hp hq

theorem Rd_V (p : Nat) : Rd (V p) p := by
  refine ⟨?_, .inl (V_lt_mid p)⟩
  by_cases h : p = 0
  · exact .inl h
  · refine .inr (.inl ?_)
    have := mid_lt_V (p - 1)
    rwa [show p - 1 + 1 = p from by omega] at this

/-- a whole number over 2^d, rounded, of two the even one -/
def rne (m d : Nat) : Nat := m / 2 ^ d + if 2 ^ d < 2 * (m % 2 ^ d) ∨ (2 * (m % 2 ^ d) = 2 ^ d ∧ m / 2 ^ d % 2 = 1) then 1 else 0

theorem rne_spec (m d : Nat) (_hd : 0 < d) :
    (2 * m < (2 * rne m d + 1) * 2 ^ d ∨ (2 * m = (2 * rne m d + 1) * 2 ^ d ∧ rne m d % 2 = 0)) ∧
    (2 * rne m d * 2 ^ d < 2 * m + 2 ^ d ∨ (2 * rne m d * 2 ^ d = 2 * m + 2 ^ d ∧ rne m d % 2 = 0)) := by
  have hp := pow_pos' d
  have hm := Nat.div_add_mod m (2 ^ d)
  have hr := Nat.mod_lt m hp
  unfold rne
  generalize 2 ^ d = D at *
  generalize m / D = q at *
  generalize m % D = r at *
  have e : D * q = q * D := Nat.mul_comm _ _
  split
  · rename_i h
    have e1 : (2 * (q + 1) + 1) * D = 2 * (q * D) + 3 * D := by rw [Nat.add_mul, Nat.mul_add, Nat.add_mul, Nat.mul_assoc]; omega
    have e2 : 2 * (q + 1) * D = 2 * (q * D) + 2 * D := by rw [Nat.mul_add, Nat.add_mul, Nat.mul_assoc]
    rw [e1, e2]
    omega
  · rename_i h
    have e1 : (2 * (q + 0) + 1) * D = 2 * (q * D) + D := by simp only [Nat.add_zero]; rw [Nat.add_mul, Nat.mul_assoc]; omega
    have e2 : 2 * (q + 0) * D = 2 * (q * D) := by simp only [Nat.add_zero]; rw [Nat.mul_assoc]
    rw [e1, e2]
    omega

/-- the pattern of q times 2^(g - 149) where q has 24 bits or g is 0 -/
theorem man_ex_of (g q : Nat) (hq : q < 16777216) (h : g = 0 ∨ 8388608 ≤ q) : man (g * 8388608 + q) = q ∧ ex (g * 8388608 + q) = g := by
  unfold man ex
  by_cases hs : q < 8388608
  · have : g = 0 := by omega
    subst this
    rw [if_pos (by omega)]; omega
  · rw [if_neg (by omega)]; omega

theorem V_of (g q : Nat) (hq : q ≤ 16777216) (h : g = 0 ∨ 8388608 ≤ q) : V (g * 8388608 + q) = q * 2 ^ (g + 851) := by
  by_cases e : q = 16777216
  · subst e
    have := (man_ex_of (g + 1) 8388608 (by omega) (.inr (by omega)))
    rw [show g * 8388608 + 16777216 = (g + 1) * 8388608 + 8388608 from by omega]
    unfold V
    rw [this.1, this.2, show g + 1 + 851 = (g + 851) + 1 from by omega, Nat.pow_succ]
    omega
  · have := man_ex_of g q (by omega) h
    unfold V; rw [this.1, this.2]

theorem mid_of (g q : Nat) (hq : q < 16777216) (h : g = 0 ∨ 8388608 ≤ q) : mid (g * 8388608 + q) = (2 * q + 1) * 2 ^ (g + 850) := by
  have := man_ex_of g q hq h
  unfold mid; rw [this.1, this.2]

/-- above the highest mantissa the halfway place is further off than it would be -/
theorem mid_of_ge (g q : Nat) (hq : q ≤ 16777216) (h : g = 0 ∨ 8388608 ≤ q) : (2 * q + 1) * 2 ^ (g + 850) ≤ mid (g * 8388608 + q) := by
  by_cases e : q = 16777216
  · subst e
    have := mid_of (g + 1) 8388608 (by omega) (.inr (by omega))
    rw [show g * 8388608 + 16777216 = (g + 1) * 8388608 + 8388608 from by omega, this, show g + 1 + 850 = g + 851 from by omega, p851]
    generalize 2 ^ (g + 850) = t
    omega
  · rw [mid_of g q (by omega) h]; exact Nat.le_refl _

/-- ROUNDING BY SHIFTING OUT k BITS, k above 0. -/
theorem Rd_shift (m k g s : Nat) (hk : 0 < k) (hq : rne m k ≤ 16777216) (hg : g = 0 ∨ 8388608 * 2 ^ k ≤ m) (hs : s + k = g + 851) :
    Rd (m * 2 ^ s) (g * 8388608 + rne m k) := by
  obtain ⟨u, l⟩ := rne_spec m k hk
  have hge : g = 0 ∨ 8388608 ≤ rne m k := by
    refine hg.imp_right fun h => ?_
    unfold rne
    have := (Nat.le_div_iff_mul_le (pow_pos' k)).2 h
    omega
  have hs1 : s ≠ 0 ∨ s = 0 := by omega
  -- all in units of half of 2^s
  have hmid : ∀ a, a * 2 ^ (g + 850) * 2 = (a * 2 ^ k) * 2 ^ s := by
    intro a
    rw [Nat.mul_assoc, ← p851, Nat.mul_assoc, ← Nat.pow_add, show k + s = g + 851 from by omega]
  have hps := pow_pos' s
  generalize hqq : rne m k = q at *
  constructor
  · by_cases h0 : g * 8388608 + q = 0
    · exact .inl h0
    · by_cases hb : 0 < g ∧ q = 8388608
      · -- the lowest of its kind: the exact value is no less than it
        refine .inr (.inl ?_)
        have h1 : 8388608 * 2 ^ k ≤ m := by omega
        have h2 : V (g * 8388608 + q) = q * 2 ^ (g + 851) := V_of g q hq hge
        have h3 := mid_lt_V (g * 8388608 + q - 1)
        rw [show g * 8388608 + q - 1 + 1 = g * 8388608 + q from by omega, h2] at h3
        refine Nat.lt_of_lt_of_le h3 ?_
        rw [hb.2, ← hs, Nat.add_comm s k, Nat.pow_add 2 k s, ← Nat.mul_assoc]
        exact Nat.mul_le_mul_right _ h1
      · have hq1 : 0 < q := by omega
        have e1 : g * 8388608 + q - 1 = g * 8388608 + (q - 1) := by omega
        have e2 : mid (g * 8388608 + (q - 1)) = (2 * (q - 1) + 1) * 2 ^ (g + 850) := mid_of g (q - 1) (by omega) (by omega)
        have e3 := hmid (2 * (q - 1) + 1)
        have e4 : (2 * (q - 1) + 1) * 2 ^ k + 2 ^ k = 2 * q * 2 ^ k := by
          rw [show 2 * q = (2 * (q - 1) + 1) + 1 from by omega, Nat.add_mul (2 * (q - 1) + 1) 1, Nat.one_mul]
        have par : (g * 8388608 + q) % 2 = q % 2 := by omega
        refine .inr ?_
        show mid _ < _ ∨ mid _ = _ ∧ _
        rw [e1, e2, par]
        rcases l with l | l
        · left
          have : (2 * (q - 1) + 1) * 2 ^ k < 2 * m := by omega
          have := Nat.mul_lt_mul_of_pos_right this hps
          rw [← e3, Nat.mul_assoc 2 m] at this
          omega
        · right
          have : (2 * (q - 1) + 1) * 2 ^ k = 2 * m := by omega
          have : (2 * (q - 1) + 1) * 2 ^ k * 2 ^ s = 2 * m * 2 ^ s := by rw [this]
          rw [← e3, Nat.mul_assoc 2 m] at this
          exact ⟨by omega, l.2⟩
  · have e2 : (2 * q + 1) * 2 ^ (g + 850) ≤ mid (g * 8388608 + q) := mid_of_ge g q hq hge
    have e3 := hmid (2 * q + 1)
    have par : (g * 8388608 + q) % 2 = q % 2 := by omega
    show _ < mid _ ∨ _ = mid _ ∧ _
    rw [par]
    rcases u with u | u
    · left
      have := Nat.mul_lt_mul_of_pos_right u hps
      rw [← e3, Nat.mul_assoc 2 m] at this
      omega
    · have : 2 * m * 2 ^ s = (2 * q + 1) * 2 ^ k * 2 ^ s := by rw [u.1]
      rw [← e3, Nat.mul_assoc 2 m] at this
      rcases Nat.lt_or_eq_of_le e2 with h | h
      · left; omega
      · right; exact ⟨by omega, u.2⟩

/-- how many bits a number has -/
def bl (n : Nat) : Nat := if n = 0 then 0 else n.log2 + 1
theorem bl_lt (n : Nat) : n < 2 ^ bl n := by
  unfold bl; split
  · subst_vars; decide
  · exact Nat.lt_log2_self
theorem bl_le (n : Nat) (h : n ≠ 0) : 2 ^ (bl n - 1) ≤ n := by
  unfold bl; rw [if_neg h]; simpa using Nat.log2_self_le h
theorem bl_unique (n b : Nat) (h1 : n < 2 ^ b) (h2 : 2 ^ (b - 1) ≤ n) (hb : 0 < b) : bl n = b := by
  have h0 : n ≠ 0 := by have := pow_pos' (b - 1); omega
  have a1 := bl_lt n
  have a2 := bl_le n h0
  have b1 : 2 ^ (b - 1) < 2 ^ bl n := Nat.lt_of_le_of_lt h2 a1
  have b2 : 2 ^ (bl n - 1) < 2 ^ b := Nat.lt_of_le_of_lt a2 h1
  have c1 := (Nat.pow_lt_pow_iff_right (by decide : 1 < 2)).1 b1
  have c2 := (Nat.pow_lt_pow_iff_right (by decide : 1 < 2)).1 b2
  omega

theorem rne_le (m k : Nat) (h : m < 16777216 * 2 ^ k) : rne m k ≤ 16777216 := by
  have := Nat.div_lt_iff_lt_mul (pow_pos' k) |>.2 h
  unfold rne; split <;> omega

/-- what X (in units of 2^-1000) rounds to, if there were no greatest pattern -/
def R0 (X : Nat) : Nat := (max (bl X - 24) 851 - 851) * 8388608 + rne X (max (bl X - 24) 851)
theorem R0_Rd (X : Nat) : Rd X (R0 X) := by
  have h := Rd_shift X (max (bl X - 24) 851) (max (bl X - 24) 851 - 851) 0 (by omega) ?_ ?_ (by omega)
  · rw [Nat.pow_zero, Nat.mul_one] at h; exact h
  · apply rne_le
    have := bl_lt X
    refine Nat.lt_of_lt_of_le this ?_
    rw [show (16777216 : Nat) = 2 ^ 24 from rfl, ← Nat.pow_add]
    exact Nat.pow_le_pow_right (by decide) (by omega)
  · by_cases h : bl X - 24 ≤ 851
    · left; omega
    · right
      have h0 : X ≠ 0 := by rintro rfl; simp [bl] at h
      refine Nat.le_trans ?_ (bl_le X h0)
      rw [show (8388608 : Nat) = 2 ^ 23 from rfl, ← Nat.pow_add]
      exact Nat.pow_le_pow_right (by decide) (by omega)
theorem R0_of {X p : Nat} (h : Rd X p) : R0 X = p := Rd_unique (R0_Rd X) h
theorem R0_V (p : Nat) : R0 (V p) = p := R0_of (Rd_V p)
theorem R0_mono {X Y : Nat} (h : X ≤ Y) : R0 X ≤ R0 Y := Rd_le h (R0_Rd X) (R0_Rd Y)
theorem R0_zero : R0 0 = 0 := by have := R0_V 0; simpa [V, man] using this

/-- what X rounds to: the greatest pattern is infinite -/
def RR (X : Nat) : Nat := min (R0 X) 2139095040
theorem RR_V (p : Nat) (h : p ≤ 2139095040) : RR (V p) = p := by unfold RR; rw [R0_V]; omega
theorem RR_mono {X Y : Nat} (h : X ≤ Y) : RR X ≤ RR Y := by have := R0_mono h; unfold RR; omega
theorem RR_le (X : Nat) : RR X ≤ 2139095040 := by unfold RR; omega
theorem RR_zero : RR 0 = 0 := by unfold RR; rw [R0_zero]; rfl

/-- NEAR ENOUGH TO A PATTERN: p above 0. -/
theorem mid_below (p : Nat) (h : 0 < p) : mid (p - 1) + 2 ^ (ex p + 849) ≤ V p := by
  obtain ⟨r, rfl⟩ : ∃ r, p = r + 1 := ⟨p - 1, by omega⟩
  rw [show r + 1 - 1 = r from by omega, V_succ]
  unfold mid
  have hx : ex (r + 1) ≤ ex r + 1 := by unfold ex; omega
  have h1 : 2 ^ (ex (r + 1) + 849) ≤ 2 ^ (ex r + 850) := Nat.pow_le_pow_right (by decide) (by omega)
  rw [p851]
  generalize 2 ^ (ex r + 850) = t at *
  have : (2 * man r + 1) * t = man r * (t * 2) + t := by rw [Nat.add_mul, Nat.one_mul, Nat.mul_comm t 2, ← Nat.mul_assoc, Nat.mul_comm (man r) 2]
  have : (man r + 1) * (t * 2) = man r * (t * 2) + t * 2 := by rw [Nat.add_mul, Nat.one_mul]
  omega
theorem mid_above (p : Nat) : mid p = V p + 2 ^ (ex p + 850) := by
  unfold V mid
  rw [p851, Nat.add_mul, Nat.one_mul, Nat.mul_comm (2 ^ (ex p + 850)) 2, ← Nat.mul_assoc, Nat.mul_comm (man p) 2]
theorem Rd_near (p X : Nat) (h : 0 < p) (h1 : X < V p + 2 ^ (ex p + 849)) (h2 : V p < X + 2 ^ (ex p + 849)) : Rd X p := by
  have a := mid_below p h
  have b := mid_above p
  have c : 2 ^ (ex p + 849) ≤ 2 ^ (ex p + 850) := Nat.pow_le_pow_right (by decide) (by omega)
  exact ⟨.inr (.inl (show mid (p - 1) < X by omega)), .inl (show X < mid p by omega)⟩

/-- A halfway place is a multiple of 2^(k+1), or below 2^(k+25). -/
theorem mid_or (k p : Nat) : (∃ j, mid p = j * 2 ^ (k + 1)) ∨ mid p < 2 ^ (k + 25) := by
  unfold mid
  by_cases h : k + 1 ≤ ex p + 850
  · left
    refine ⟨(2 * man p + 1) * 2 ^ (ex p + 850 - (k + 1)), ?_⟩
    rw [Nat.mul_assoc, ← Nat.pow_add]; congr 2; omega
  · right
    have h1 : 2 ^ (ex p + 850) ≤ 2 ^ k := Nat.pow_le_pow_right (by decide) (by omega)
    have h2 := man_lt p
    have h3 : 2 * man p + 1 < 33554432 := by omega
    calc (2 * man p + 1) * 2 ^ (ex p + 850) ≤ (2 * man p + 1) * 2 ^ k := Nat.mul_le_mul_left _ h1
      _ < 33554432 * 2 ^ k := Nat.mul_lt_mul_of_pos_right h3 (pow_pos' k)
      _ = 2 ^ (k + 25) := by rw [show (33554432 : Nat) = 2 ^ 25 from rfl, ← Nat.pow_add, Nat.add_comm]

/-- THE BIT BELOW: q with its last bit set where something was dropped rounds as the true value does. -/
theorem Rf_sticky {f : Nat → Nat} (hf : ∀ a b, a < b → f a < f b) (A q k Q p : Nat) (hq : 33554432 ≤ q)
    (h1 : f (q * 2 ^ k) ≤ A) (h2 : A < f ((q + 1) * 2 ^ k))
    (hQ : (f (q * 2 ^ k) = A ∧ Q = q) ∨ (f (q * 2 ^ k) < A ∧ Q = q ∧ q % 2 = 1) ∨ (f (q * 2 ^ k) < A ∧ Q = q + 1 ∧ q % 2 = 0))
    (hp : Rd (Q * 2 ^ k) p) : Rf f A p := by
  have hpk := pow_pos' k
  have key : ∀ y, ((∃ j, y = j * 2 ^ (k + 1)) ∨ y < 2 ^ (k + 25)) →
      ((y < Q * 2 ^ k → f y < A) ∧ (y = Q * 2 ^ k → f y = A) ∧ (Q * 2 ^ k < y → A < f y)) := by
    intro y hy
    have hqk : 2 ^ (k + 25) ≤ q * 2 ^ k := by
      rw [Nat.add_comm, Nat.pow_add]; exact Nat.mul_le_mul_right _ hq
    have hqQ : q * 2 ^ k ≤ Q * 2 ^ k := Nat.mul_le_mul_right _ (by omega)
    rcases hy with ⟨j, rfl⟩ | hy
    · have ej : j * 2 ^ (k + 1) = (2 * j) * 2 ^ k := by rw [Nat.pow_succ, Nat.mul_comm (2 ^ k) 2, ← Nat.mul_assoc, Nat.mul_comm j 2]
      rw [ej]
      have hc : ∀ {a b : Nat}, a * 2 ^ k < b * 2 ^ k ↔ a < b := fun {a b} => ⟨fun h => Nat.lt_of_mul_lt_mul_right h, fun h => Nat.mul_lt_mul_of_pos_right h hpk⟩
      have hfm : ∀ {a b : Nat}, a ≤ b → f (a * 2 ^ k) ≤ f (b * 2 ^ k) := by
        intro a b h
        rcases Nat.lt_or_eq_of_le h with h | h
        · exact Nat.le_of_lt (hf _ _ (hc.2 h))
        · rw [h]; exact Nat.le_refl _
      refine ⟨fun h => ?_, fun h => ?_, fun h => ?_⟩
      · have h := hc.1 h
        rcases hQ with ⟨e, rfl⟩ | ⟨e, rfl, _⟩ | ⟨e, rfl, _⟩
        · rw [← e]; exact hf _ _ (hc.2 h)
        · exact Nat.lt_of_le_of_lt (hfm (Nat.le_of_lt h)) e
        · exact Nat.lt_of_le_of_lt (hfm (by omega)) e
      · have h : 2 * j = Q := Nat.eq_of_mul_eq_mul_right hpk h
        rcases hQ with ⟨e, rfl⟩ | ⟨e, rfl, o⟩ | ⟨e, rfl, o⟩
        · rw [h, e]
        · omega
        · omega
      · have h := hc.1 h
        rcases hQ with ⟨e, rfl⟩ | ⟨e, rfl, _⟩ | ⟨e, rfl, _⟩
        · rw [← e]; exact hf _ _ (hc.2 h)
        · exact Nat.lt_of_lt_of_le h2 (hfm (by omega))
        · exact Nat.lt_of_lt_of_le h2 (hfm (by omega))
    · refine ⟨fun _ => ?_, fun h => ?_, fun h => ?_⟩
      · exact Nat.lt_of_lt_of_le (hf y (q * 2 ^ k) (by omega)) h1
      · omega
      · omega
  obtain ⟨l, u⟩ := hp
  refine ⟨?_, ?_⟩
  · rcases l with l | l | l
    · exact .inl l
    · exact .inr (.inl ((key _ (mid_or k (p - 1))).1 l))
    · exact .inr (.inr ⟨(key _ (mid_or k (p - 1))).2.1 l.1, l.2⟩)
  · rcases u with u | u
    · exact .inl ((key _ (mid_or k p)).2.2 u)
    · exact .inr ⟨((key _ (mid_or k p)).2.1 u.1.symm).symm, u.2⟩

/-- what m times 2^e rounds to -/
def RI (m e : Int) : Int := (RR (m.toNat * 2 ^ (e + 1000).toNat) : Nat)
theorem RI_bd (m e : Int) : 0 ≤ RI m e ∧ RI m e ≤ 2139095040 := by unfold RI; have := RR_le (m.toNat * 2 ^ (e + 1000).toNat); omega
theorem RI_zero (e : Int) : RI 0 e = 0 := by unfold RI; simp [RR_zero]
/-- by shifting out d bits -/
theorem RI_drop (m p d : Int) (hd : 0 < d) (h1 : (bl m.toNat : Int) - 24 ≤ d) (h2 : -149 - p ≤ d) (h3 : d = bl m.toNat - 24 ∨ d = -149 - p) (h4 : -900 ≤ p) :
    RI m p = min ((p + d + 149) * 8388608 + rne m.toNat d.toNat) 2139095040 ∧ (rne m.toNat d.toNat = 0 → RI m p = 0) := by
  have key : R0 (m.toNat * 2 ^ (p + 1000).toNat) = (p + d + 149).toNat * 8388608 + rne m.toNat d.toNat := by
    apply R0_of
    apply Rd_shift
    · omega
    · apply rne_le
      refine Nat.lt_of_lt_of_le (bl_lt m.toNat) ?_
      rw [show (16777216 : Nat) = 2 ^ 24 from rfl, ← Nat.pow_add]
      exact Nat.pow_le_pow_right (by decide) (by omega)
    · rcases h3 with h3 | h3
      · right
        have h0 : m.toNat ≠ 0 := by intro h; rw [h] at h3; simp [bl] at h3; omega
        refine Nat.le_trans ?_ (bl_le m.toNat h0)
        rw [show (8388608 : Nat) = 2 ^ 23 from rfl, ← Nat.pow_add]
        exact Nat.pow_le_pow_right (by decide) (by omega)
      · left; omega
    · omega
  unfold RI RR
  rw [key]
  refine ⟨by omega, fun hz => ?_⟩
  rw [hz]
  rcases h3 with h3 | h3
  · exfalso
    have h0 : m.toNat ≠ 0 := by intro h; rw [h] at h3; simp [bl] at h3; omega
    have : 8388608 * 2 ^ d.toNat ≤ m.toNat := by
      refine Nat.le_trans ?_ (bl_le m.toNat h0)
      rw [show (8388608 : Nat) = 2 ^ 23 from rfl, ← Nat.pow_add]
      exact Nat.pow_le_pow_right (by decide) (by omega)
    have := (Nat.le_div_iff_mul_le (pow_pos' d.toNat)).2 this
    unfold rne at hz
    omega
  · rw [show (p + d + 149).toNat = 0 from by omega]; rfl
/-- by shifting in d bits -/
theorem RI_lift (m p d : Int) (hd : d ≤ 0) (h1 : (bl m.toNat : Int) - 24 ≤ d) (h2 : -149 - p ≤ d) (h3 : d = bl m.toNat - 24 ∨ d = -149 - p) (h5 : m.toNat ≠ 0) (h4 : -900 ≤ p) :
    RI m p = min ((p + d + 149) * 8388608 + (m.toNat * 2 ^ (-d).toNat : Nat)) 2139095040 ∧ m.toNat * 2 ^ (-d).toNat < 16777216 := by
  have hlt : m.toNat * 2 ^ (-d).toNat < 16777216 := by
    refine Nat.lt_of_lt_of_le (Nat.mul_lt_mul_of_pos_right (bl_lt m.toNat) (pow_pos' _)) ?_
    rw [show (16777216 : Nat) = 2 ^ 24 from rfl, ← Nat.pow_add]
    exact Nat.pow_le_pow_right (by decide) (by omega)
  refine ⟨?_, hlt⟩
  have key : V ((p + d + 149).toNat * 8388608 + m.toNat * 2 ^ (-d).toNat) = m.toNat * 2 ^ (p + 1000).toNat := by
    rw [V_of _ _ (Nat.le_of_lt hlt), Nat.mul_assoc, ← Nat.pow_add]
    · congr 2; omega
    · rcases h3 with h3 | h3
      · right
        refine Nat.le_trans ?_ (Nat.mul_le_mul_right _ (bl_le m.toNat h5))
        rw [show (8388608 : Nat) = 2 ^ 23 from rfl, ← Nat.pow_add]
        exact Nat.pow_le_pow_right (by decide) (by omega)
      · left; omega
  unfold RI RR
  rw [← key, R0_V]
  omega
end Go.Proofs.Ytnkgfoabadjboaa
