/-
  The plain mathematics of rounding to 32-bit floating-point patterns: a rounded value is told apart by the halfway places beside it, and there is just one such pattern. No condition; nothing of Go is in sight.
-/
import Init
namespace Go.Proofs.YtoihkljlekknkaaGreat

/-- A pattern without its sign is 'man p' times 2^('ex p' - 149). -/
def man (p : Nat) : Nat := if p < 8388608 then p else 8388608 + p % 8388608
def ex (p : Nat) : Nat := p / 8388608 - 1
/-- Its value in units of 2^-149. -/
def val (p : Nat) : Nat := man p * 2 ^ ex p
/-- Its value in units of 2^-1000. -/
def V (p : Nat) : Nat := man p * 2 ^ (ex p + 851)
/-- The place halfway to the next pattern, in units of 2^-1000. -/
def mid (p : Nat) : Nat := (2 * man p + 1) * 2 ^ (ex p + 850)

theorem man_lt (p : Nat) : man p < 16777216 := by unfold man; split <;> omega
theorem V_val (p : Nat) : V p = val p * 2 ^ 851 := by unfold V val; rw [Nat.pow_add, Nat.mul_assoc]

theorem V_succ (p : Nat) : V (p + 1) = (man p + 1) * 2 ^ (ex p + 851) := by
 unfold V man ex
 by_cases h : p + 1 < 8388608
 · have h' : p < 8388608 := by omega
   have e1 : (p + 1) / 8388608 - 1 = 0 := by omega
   have e2 : p / 8388608 - 1 = 0 := by omega
   rw [if_pos h, if_pos h', e1, e2]
 · by_cases h' : p < 8388608
   · have e1 : (p + 1) / 8388608 - 1 = 0 := by omega
     have e2 : p / 8388608 - 1 = 0 := by omega
     rw [if_neg h, if_pos h', e1, e2]
     congr 1; omega
   · rw [if_neg h, if_neg h']
     by_cases hb : p % 8388608 = 8388607
     · have e1 : (p + 1) / 8388608 - 1 = p / 8388608 - 1 + 1 := by omega
       have e2 : (p + 1) % 8388608 = 0 := by omega
       rw [e1, e2, hb, show p / 8388608 - 1 + 1 + 851 = (p / 8388608 - 1 + 851) + 1 from by omega, Nat.pow_succ]
       omega
     · have e1 : (p + 1) / 8388608 - 1 = p / 8388608 - 1 := by omega
       have e2 : (p + 1) % 8388608 = p % 8388608 + 1 := by omega
       rw [e1, e2]; congr 1

theorem pow_pos' (n : Nat) : 0 < 2 ^ n := Nat.two_pow_pos n

theorem p851 (x : Nat) : 2 ^ (x + 851) = 2 ^ (x + 850) * 2 := Nat.pow_succ (n := 2) (m := x + 850)

theorem V_lt_mid (p : Nat) : V p < mid p := by
 unfold V mid
 have := pow_pos' (ex p + 850)
 rw [p851]
 generalize 2 ^ (ex p + 850) = t at *
 have : (2 * man p + 1) * t = man p * (t * 2) + t := by rw [Nat.add_mul, Nat.one_mul, Nat.mul_comm t 2, ← Nat.mul_assoc, Nat.mul_comm (man p) 2]
 omega
theorem mid_lt_V (p : Nat) : mid p < V (p + 1) := by
 rw [V_succ]; unfold mid
 have := pow_pos' (ex p + 850)
 rw [p851]
 generalize 2 ^ (ex p + 850) = t at *
 have : (2 * man p + 1) * t = man p * (t * 2) + t := by rw [Nat.add_mul, Nat.one_mul, Nat.mul_comm t 2, ← Nat.mul_assoc, Nat.mul_comm (man p) 2]
 have : (man p + 1) * (t * 2) = man p * (t * 2) + t * 2 := by rw [Nat.add_mul, Nat.one_mul]
 omega
theorem V_mono {p q : Nat} (h : p < q) : V p < V q := by
 induction q with
 | zero => omega
 | succ q ih =>
   have h1 := Nat.lt_trans (V_lt_mid q) (mid_lt_V q)
   by_cases e : p = q
   · subst e; exact h1
   · exact Nat.lt_trans (ih (by omega)) h1
theorem V_le {p q : Nat} (h : p ≤ q) : V p ≤ V q := by
 by_cases e : p = q
 · subst e; exact Nat.le_refl _
 · exact Nat.le_of_lt (V_mono (by omega))
theorem mid_mono {p q : Nat} (h : p < q) : mid p < mid q :=
 Nat.lt_of_lt_of_le (mid_lt_V p) (Nat.le_trans (V_le h) (Nat.le_of_lt (V_lt_mid q)))
theorem mid_le {p q : Nat} (h : p ≤ q) : mid p ≤ mid q := by
 by_cases e : p = q
 · subst e; exact Nat.le_refl _
 · exact Nat.le_of_lt (mid_mono (by omega))

/-- 'p' is what the value rounds to whose image under 'f' is 'A' ('f' rises: the number itself, a multiple, a square). -/
def Rf (f : Nat → Nat) (A p : Nat) : Prop :=
 (p = 0 ∨ f (mid (p - 1)) < A ∨ (f (mid (p - 1)) = A ∧ p % 2 = 0)) ∧ (A < f (mid p) ∨ (A = f (mid p) ∧ p % 2 = 0))

theorem Rf_le {f : Nat → Nat} (hf : ∀ a b, a < b → f a < f b) {A B p q : Nat} (hAB : A ≤ B) (hp : Rf f A p) (hq : Rf f B q) : p ≤ q := by
 refine Nat.le_of_not_lt fun h => ?_
 obtain ⟨a1, _⟩ := hp
 obtain ⟨_, b2⟩ := hq
 have hm : mid q ≤ mid (p - 1) := mid_le (by omega)
 by_cases e : q = p - 1
 · subst e
   omega
 · have hlt := hf _ _ (mid_mono (show q < p - 1 by omega))
   omega
theorem Rf_unique {f : Nat → Nat} (hf : ∀ a b, a < b → f a < f b) {A p q : Nat} (hp : Rf f A p) (hq : Rf f A q) : p = q :=
 Nat.le_antisymm (Rf_le hf (Nat.le_refl _) hp hq) (Rf_le hf (Nat.le_refl _) hq hp)

/-- 'p' is what the value X (in units of 2^-1000) rounds to, if there were no greatest pattern. -/
abbrev Rd (X p : Nat) : Prop := Rf (fun y => y) X p
theorem Rd_le {A B p q : Nat} (hAB : A ≤ B) (hp : Rd A p) (hq : Rd B q) : p ≤ q := Rf_le (fun _ _ h => h) hAB hp hq
theorem Rd_unique {A p q : Nat} (hp : Rd A p) (hq : Rd A q) : p = q := Rf_unique (fun _ _ h => h) hp hq

theorem Rd_V (p : Nat) : Rd (V p) p := by
 refine ⟨?_, .inl (V_lt_mid p)⟩
 by_cases h : p = 0
 · exact .inl h
 · refine .inr (.inl ?_)
   have := mid_lt_V (p - 1)
   rwa [show p - 1 + 1 = p from by omega] at this

/-- a whole number over 2^d, rounded, of two the even one -/
def rne (m d : Nat) : Nat := m / 2 ^ d + if 2 ^ d < 2 * (m % 2 ^ d) ∨ (2 * (m % 2 ^ d) = 2 ^ d ∧ m / 2 ^ d % 2 = 1) then 1 else 0

theorem rne_spec (m d : Nat) (_hd : 0 < d) :
 (2 * m < (2 * rne m d + 1) * 2 ^ d ∨ (2 * m = (2 * rne m d + 1) * 2 ^ d ∧ rne m d % 2 = 0)) ∧
 (2 * rne m d * 2 ^ d < 2 * m + 2 ^ d ∨ (2 * rne m d * 2 ^ d = 2 * m + 2 ^ d ∧ rne m d % 2 = 0)) := by
 have hp := pow_pos' d
 have hm := Nat.div_add_mod m (2 ^ d)
 have hr := Nat.mod_lt m hp
 unfold rne
 generalize 2 ^ d = D at *
 generalize m / D = q at *
 generalize m % D = r at *
 have e : D * q = q * D := Nat.mul_comm _ _
 split
 · rename_i h
   have e1 : (2 * (q + 1) + 1) * D = 2 * (q * D) + 3 * D := by rw [Nat.add_mul, Nat.mul_add, Nat.add_mul, Nat.mul_assoc]; omega
   have e2 : 2 * (q + 1) * D = 2 * (q * D) + 2 * D := by rw [Nat.mul_add, Nat.add_mul, Nat.mul_assoc]
   rw [e1, e2]
   omega
 · rename_i h
   have e1 : (2 * (q + 0) + 1) * D = 2 * (q * D) + D := by simp only [Nat.add_zero]; rw [Nat.add_mul, Nat.mul_assoc]; omega
   have e2 : 2 * (q + 0) * D = 2 * (q * D) := by simp only [Nat.add_zero]; rw [Nat.mul_assoc]
   rw [e1, e2]
   omega

/-- the pattern of q times 2^(g - 149) where q has 24 bits or g is 0 -/
theorem man_ex_of (g q : Nat) (hq : q < 16777216) (h : g = 0 ∨ 8388608 ≤ q) : man (g * 8388608 + q) = q ∧ ex (g * 8388608 + q) = g := by
 unfold man ex
 by_cases hs : q < 8388608
 · have : g = 0 := by omega
   subst this
   rw [if_pos (by omega)]; omega
 · rw [if_neg (by omega)]; omega

theorem V_of (g q : Nat) (hq : q ≤ 16777216) (h : g = 0 ∨ 8388608 ≤ q) : V (g * 8388608 + q) = q * 2 ^ (g + 851) := by
 by_cases e : q = 16777216
 · subst e
   have := (man_ex_of (g + 1) 8388608 (by omega) (.inr (by omega)))
   rw [show g * 8388608 + 16777216 = (g + 1) * 8388608 + 8388608 from by omega]
   unfold V
   rw [this.1, this.2, show g + 1 + 851 = (g + 851) + 1 from by omega, Nat.pow_succ]
   omega
 · have := man_ex_of g q (by omega) h
   unfold V; rw [this.1, this.2]

theorem mid_of (g q : Nat) (hq : q < 16777216) (h : g = 0 ∨ 8388608 ≤ q) : mid (g * 8388608 + q) = (2 * q + 1) * 2 ^ (g + 850) := by
 have := man_ex_of g q hq h
 unfold mid; rw [this.1, this.2]

/-- above the highest mantissa the halfway place is further off than it would be -/
theorem mid_of_ge (g q : Nat) (hq : q ≤ 16777216) (h : g = 0 ∨ 8388608 ≤ q) : (2 * q + 1) * 2 ^ (g + 850) ≤ mid (g * 8388608 + q) := by
 by_cases e : q = 16777216
 · subst e
   have := mid_of (g + 1) 8388608 (by omega) (.inr (by omega))
   rw [show g * 8388608 + 16777216 = (g + 1) * 8388608 + 8388608 from by omega, this, show g + 1 + 850 = g + 851 from by omega, p851]
   generalize 2 ^ (g + 850) = t
   omega
 · rw [mid_of g q (by omega) h]; exact Nat.le_refl _

/-- ROUNDING BY SHIFTING OUT k BITS, k above 0. -/
theorem Rd_shift (m k g s : Nat) (hk : 0 < k) (hq : rne m k ≤ 16777216) (hg : g = 0 ∨ 8388608 * 2 ^ k ≤ m) (hs : s + k = g + 851) :
 Rd (m * 2 ^ s) (g * 8388608 + rne m k) := by
 obtain ⟨u, l⟩ := rne_spec m k hk
 have hge : g = 0 ∨ 8388608 ≤ rne m k := by
  refine hg.imp_right fun h => ?_
  unfold rne
  have := (Nat.le_div_iff_mul_le (pow_pos' k)).2 h
  omega
 have hs1 : s ≠ 0 ∨ s = 0 := by omega
 -- all in units of half of 2^s
 have hmid : ∀ a, a * 2 ^ (g + 850) * 2 = (a * 2 ^ k) * 2 ^ s := by
  intro a
  rw [Nat.mul_assoc, ← p851, Nat.mul_assoc, ← Nat.pow_add, show k + s = g + 851 from by omega]
 have hps := pow_pos' s
 generalize hqq : rne m k = q at *
 constructor
 · by_cases h0 : g * 8388608 + q = 0
   · exact .inl h0
   · by_cases hb : 0 < g ∧ q = 8388608
     · -- the lowest of its kind: the exact value is no less than it
       refine .inr (.inl ?_)
       have h1 : 8388608 * 2 ^ k ≤ m := by omega
       have h2 : V (g * 8388608 + q) = q * 2 ^ (g + 851) := V_of g q hq hge
       have h3 := mid_lt_V (g * 8388608 + q - 1)
       rw [show g * 8388608 + q - 1 + 1 = g * 8388608 + q from by omega, h2] at h3
       refine Nat.lt_of_lt_of_le h3 ?_
       rw [hb.2, ← hs, Nat.add_comm s k, Nat.pow_add 2 k s, ← Nat.mul_assoc]
       exact Nat.mul_le_mul_right _ h1
     · have hq1 : 0 < q := by omega
       have e1 : g * 8388608 + q - 1 = g * 8388608 + (q - 1) := by omega
       have e2 : mid (g * 8388608 + (q - 1)) = (2 * (q - 1) + 1) * 2 ^ (g + 850) := mid_of g (q - 1) (by omega) (by omega)
       have e3 := hmid (2 * (q - 1) + 1)
       have e4 : (2 * (q - 1) + 1) * 2 ^ k + 2 ^ k = 2 * q * 2 ^ k := by
        rw [show 2 * q = (2 * (q - 1) + 1) + 1 from by omega, Nat.add_mul (2 * (q - 1) + 1) 1, Nat.one_mul]
       have par : (g * 8388608 + q) % 2 = q % 2 := by omega
       refine .inr ?_
       show mid _ < _ ∨ mid _ = _ ∧ _
       rw [e1, e2, par]
       rcases l with l | l
       · left
         have : (2 * (q - 1) + 1) * 2 ^ k < 2 * m := by omega
         have := Nat.mul_lt_mul_of_pos_right this hps
         rw [← e3, Nat.mul_assoc 2 m] at this
         omega
       · right
         have : (2 * (q - 1) + 1) * 2 ^ k = 2 * m := by omega
         have : (2 * (q - 1) + 1) * 2 ^ k * 2 ^ s = 2 * m * 2 ^ s := by rw [this]
         rw [← e3, Nat.mul_assoc 2 m] at this
         exact ⟨by omega, l.2⟩
 · have e2 : (2 * q + 1) * 2 ^ (g + 850) ≤ mid (g * 8388608 + q) := mid_of_ge g q hq hge
   have e3 := hmid (2 * q + 1)
   have par : (g * 8388608 + q) % 2 = q % 2 := by omega
   show _ < mid _ ∨ _ = mid _ ∧ _
   rw [par]
   rcases u with u | u
   · left
     have := Nat.mul_lt_mul_of_pos_right u hps
     rw [← e3, Nat.mul_assoc 2 m] at this
     omega
   · have : 2 * m * 2 ^ s = (2 * q + 1) * 2 ^ k * 2 ^ s := by rw [u.1]
     rw [← e3, Nat.mul_assoc 2 m] at this
     rcases Nat.lt_or_eq_of_le e2 with h | h
     · left; omega
     · right; exact ⟨by omega, u.2⟩

/-- how many bits a number has -/
def bl (n : Nat) : Nat := if n = 0 then 0 else n.log2 + 1
theorem bl_lt (n : Nat) : n < 2 ^ bl n := by
 unfold bl; split
 · subst_vars; decide
 · exact Nat.lt_log2_self
theorem bl_le (n : Nat) (h : n ≠ 0) : 2 ^ (bl n - 1) ≤ n := by
 unfold bl; rw [if_neg h]; simpa using Nat.log2_self_le h
theorem bl_unique (n b : Nat) (h1 : n < 2 ^ b) (h2 : 2 ^ (b - 1) ≤ n) (hb : 0 < b) : bl n = b := by
 have h0 : n ≠ 0 := by have := pow_pos' (b - 1); omega
 have a1 := bl_lt n
 have a2 := bl_le n h0
 have b1 : 2 ^ (b - 1) < 2 ^ bl n := Nat.lt_of_le_of_lt h2 a1
 have b2 : 2 ^ (bl n - 1) < 2 ^ b := Nat.lt_of_le_of_lt a2 h1
 have c1 := (Nat.pow_lt_pow_iff_right (by decide : 1 < 2)).1 b1
 have c2 := (Nat.pow_lt_pow_iff_right (by decide : 1 < 2)).1 b2
 omega

theorem rne_le (m k : Nat) (h : m < 16777216 * 2 ^ k) : rne m k ≤ 16777216 := by
 have := Nat.div_lt_iff_lt_mul (pow_pos' k) |>.2 h
 unfold rne; split <;> omega

/-- what X (in units of 2^-1000) rounds to, if there were no greatest pattern -/
def R0 (X : Nat) : Nat := (max (bl X - 24) 851 - 851) * 8388608 + rne X (max (bl X - 24) 851)
theorem R0_Rd (X : Nat) : Rd X (R0 X) := by
 have h := Rd_shift X (max (bl X - 24) 851) (max (bl X - 24) 851 - 851) 0 (by omega) ?_ ?_ (by omega)
 · rw [Nat.pow_zero, Nat.mul_one] at h; exact h
 · apply rne_le
   have := bl_lt X
   refine Nat.lt_of_lt_of_le this ?_
   rw [show (16777216 : Nat) = 2 ^ 24 from rfl, ← Nat.pow_add]
   exact Nat.pow_le_pow_right (by decide) (by omega)
 · by_cases h : bl X - 24 ≤ 851
   · left; omega
   · right
     have h0 : X ≠ 0 := by rintro rfl; simp [bl] at h
     refine Nat.le_trans ?_ (bl_le X h0)
     rw [show (8388608 : Nat) = 2 ^ 23 from rfl, ← Nat.pow_add]
     exact Nat.pow_le_pow_right (by decide) (by omega)
theorem R0_of {X p : Nat} (h : Rd X p) : R0 X = p := Rd_unique (R0_Rd X) h
theorem R0_V (p : Nat) : R0 (V p) = p := R0_of (Rd_V p)
theorem R0_mono {X Y : Nat} (h : X ≤ Y) : R0 X ≤ R0 Y := Rd_le h (R0_Rd X) (R0_Rd Y)
theorem R0_zero : R0 0 = 0 := by have := R0_V 0; simpa [V, man] using this

/-- what X rounds to: the greatest pattern is infinite -/
def RR (X : Nat) : Nat := min (R0 X) 2139095040
theorem RR_V (p : Nat) (h : p ≤ 2139095040) : RR (V p) = p := by unfold RR; rw [R0_V]; omega
theorem RR_mono {X Y : Nat} (h : X ≤ Y) : RR X ≤ RR Y := by have := R0_mono h; unfold RR; omega
theorem RR_le (X : Nat) : RR X ≤ 2139095040 := by unfold RR; omega
theorem RR_zero : RR 0 = 0 := by unfold RR; rw [R0_zero]; rfl

/-- NEAR ENOUGH TO A PATTERN: p above 0. -/
theorem mid_below (p : Nat) (h : 0 < p) : mid (p - 1) + 2 ^ (ex p + 849) ≤ V p := by
 obtain ⟨r, rfl⟩ : ∃ r, p = r + 1 := ⟨p - 1, by omega⟩
 rw [show r + 1 - 1 = r from by omega, V_succ]
 unfold mid
 have hx : ex (r + 1) ≤ ex r + 1 := by unfold ex; omega
 have h1 : 2 ^ (ex (r + 1) + 849) ≤ 2 ^ (ex r + 850) := Nat.pow_le_pow_right (by decide) (by omega)
 rw [p851]
 generalize 2 ^ (ex r + 850) = t at *
 have : (2 * man r + 1) * t = man r * (t * 2) + t := by rw [Nat.add_mul, Nat.one_mul, Nat.mul_comm t 2, ← Nat.mul_assoc, Nat.mul_comm (man r) 2]
 have : (man r + 1) * (t * 2) = man r * (t * 2) + t * 2 := by rw [Nat.add_mul, Nat.one_mul]
 omega
theorem mid_above (p : Nat) : mid p = V p + 2 ^ (ex p + 850) := by
 unfold V mid
 rw [p851, Nat.add_mul, Nat.one_mul, Nat.mul_comm (2 ^ (ex p + 850)) 2, ← Nat.mul_assoc, Nat.mul_comm (man p) 2]
theorem Rd_near (p X : Nat) (h : 0 < p) (h1 : X < V p + 2 ^ (ex p + 849)) (h2 : V p < X + 2 ^ (ex p + 849)) : Rd X p := by
 have a := mid_below p h
 have b := mid_above p
 have c : 2 ^ (ex p + 849) ≤ 2 ^ (ex p + 850) := Nat.pow_le_pow_right (by decide) (by omega)
 exact ⟨.inr (.inl (show mid (p - 1) < X by omega)), .inl (show X < mid p by omega)⟩

/-- A halfway place is a multiple of 2^(k+1), or below 2^(k+25). -/
theorem mid_or (k p : Nat) : (∃ j, mid p = j * 2 ^ (k + 1)) ∨ mid p < 2 ^ (k + 25) := by
 unfold mid
 by_cases h : k + 1 ≤ ex p + 850
 · left
   refine ⟨(2 * man p + 1) * 2 ^ (ex p + 850 - (k + 1)), ?_⟩
   rw [Nat.mul_assoc, ← Nat.pow_add]; congr 2; omega
 · right
   have h1 : 2 ^ (ex p + 850) ≤ 2 ^ k := Nat.pow_le_pow_right (by decide) (by omega)
   have h2 := man_lt p
   have h3 : 2 * man p + 1 < 33554432 := by omega
   calc (2 * man p + 1) * 2 ^ (ex p + 850) ≤ (2 * man p + 1) * 2 ^ k := Nat.mul_le_mul_left _ h1
    _ < 33554432 * 2 ^ k := Nat.mul_lt_mul_of_pos_right h3 (pow_pos' k)
    _ = 2 ^ (k + 25) := by rw [show (33554432 : Nat) = 2 ^ 25 from rfl, ← Nat.pow_add, Nat.add_comm]

/-- THE BIT BELOW: q with its last bit set where something was dropped rounds as the true value does. -/
theorem Rf_sticky {f : Nat → Nat} (hf : ∀ a b, a < b → f a < f b) (A q k Q p : Nat) (hq : 33554432 ≤ q)
 (h1 : f (q * 2 ^ k) ≤ A) (h2 : A < f ((q + 1) * 2 ^ k))
 (hQ : (f (q * 2 ^ k) = A ∧ Q = q) ∨ (f (q * 2 ^ k) < A ∧ Q = q ∧ q % 2 = 1) ∨ (f (q * 2 ^ k) < A ∧ Q = q + 1 ∧ q % 2 = 0))
 (hp : Rd (Q * 2 ^ k) p) : Rf f A p := by
 have hpk := pow_pos' k
 have key : ∀ y, ((∃ j, y = j * 2 ^ (k + 1)) ∨ y < 2 ^ (k + 25)) →
  ((y < Q * 2 ^ k → f y < A) ∧ (y = Q * 2 ^ k → f y = A) ∧ (Q * 2 ^ k < y → A < f y)) := by
  intro y hy
  have hqk : 2 ^ (k + 25) ≤ q * 2 ^ k := by
   rw [Nat.add_comm, Nat.pow_add]; exact Nat.mul_le_mul_right _ hq
  have hqQ : q * 2 ^ k ≤ Q * 2 ^ k := Nat.mul_le_mul_right _ (by omega)
  rcases hy with ⟨j, rfl⟩ | hy
  · have ej : j * 2 ^ (k + 1) = (2 * j) * 2 ^ k := by rw [Nat.pow_succ, Nat.mul_comm (2 ^ k) 2, ← Nat.mul_assoc, Nat.mul_comm j 2]
    rw [ej]
    have hc : ∀ {a b : Nat}, a * 2 ^ k < b * 2 ^ k ↔ a < b := fun {a b} => ⟨fun h => Nat.lt_of_mul_lt_mul_right h, fun h => Nat.mul_lt_mul_of_pos_right h hpk⟩
    have hfm : ∀ {a b : Nat}, a ≤ b → f (a * 2 ^ k) ≤ f (b * 2 ^ k) := by
     intro a b h
     rcases Nat.lt_or_eq_of_le h with h | h
     · exact Nat.le_of_lt (hf _ _ (hc.2 h))
     · rw [h]; exact Nat.le_refl _
    refine ⟨fun h => ?_, fun h => ?_, fun h => ?_⟩
    · have h := hc.1 h
      rcases hQ with ⟨e, rfl⟩ | ⟨e, rfl, _⟩ | ⟨e, rfl, _⟩
      · rw [← e]; exact hf _ _ (hc.2 h)
      · exact Nat.lt_of_le_of_lt (hfm (Nat.le_of_lt h)) e
      · exact Nat.lt_of_le_of_lt (hfm (by omega)) e
    · have h : 2 * j = Q := Nat.eq_of_mul_eq_mul_right hpk h
      rcases hQ with ⟨e, rfl⟩ | ⟨e, rfl, o⟩ | ⟨e, rfl, o⟩
      · rw [h, e]
      · omega
      · omega
    · have h := hc.1 h
      rcases hQ with ⟨e, rfl⟩ | ⟨e, rfl, _⟩ | ⟨e, rfl, _⟩
      · rw [← e]; exact hf _ _ (hc.2 h)
      · exact Nat.lt_of_lt_of_le h2 (hfm (by omega))
      · exact Nat.lt_of_lt_of_le h2 (hfm (by omega))
  · refine ⟨fun _ => ?_, fun h => ?_, fun h => ?_⟩
    · exact Nat.lt_of_lt_of_le (hf y (q * 2 ^ k) (by omega)) h1
    · omega
    · omega
 obtain ⟨l, u⟩ := hp
 refine ⟨?_, ?_⟩
 · rcases l with l | l | l
   · exact .inl l
   · exact .inr (.inl ((key _ (mid_or k (p - 1))).1 l))
   · exact .inr (.inr ⟨(key _ (mid_or k (p - 1))).2.1 l.1, l.2⟩)
 · rcases u with u | u
   · exact .inl ((key _ (mid_or k p)).2.2 u)
   · exact .inr ⟨((key _ (mid_or k p)).2.1 u.1.symm).symm, u.2⟩

/-- what m times 2^e rounds to -/
def RI (m e : Int) : Int := (RR (m.toNat * 2 ^ (e + 1000).toNat) : Nat)
theorem RI_bd (m e : Int) : 0 ≤ RI m e ∧ RI m e ≤ 2139095040 := by unfold RI; have := RR_le (m.toNat * 2 ^ (e + 1000).toNat); omega
theorem RI_zero (e : Int) : RI 0 e = 0 := by unfold RI; simp [RR_zero]
/-- by shifting out d bits -/
theorem RI_drop (m p d : Int) (hd : 0 < d) (h1 : (bl m.toNat : Int) - 24 ≤ d) (h2 : -149 - p ≤ d) (h3 : d = bl m.toNat - 24 ∨ d = -149 - p) (h4 : -900 ≤ p) :
 RI m p = min ((p + d + 149) * 8388608 + rne m.toNat d.toNat) 2139095040 ∧ (rne m.toNat d.toNat = 0 → RI m p = 0) := by
 have key : R0 (m.toNat * 2 ^ (p + 1000).toNat) = (p + d + 149).toNat * 8388608 + rne m.toNat d.toNat := by
  apply R0_of
  apply Rd_shift
  · omega
  · apply rne_le
    refine Nat.lt_of_lt_of_le (bl_lt m.toNat) ?_
    rw [show (16777216 : Nat) = 2 ^ 24 from rfl, ← Nat.pow_add]
    exact Nat.pow_le_pow_right (by decide) (by omega)
  · rcases h3 with h3 | h3
    · right
      have h0 : m.toNat ≠ 0 := by intro h; rw [h] at h3; simp [bl] at h3; omega
      refine Nat.le_trans ?_ (bl_le m.toNat h0)
      rw [show (8388608 : Nat) = 2 ^ 23 from rfl, ← Nat.pow_add]
      exact Nat.pow_le_pow_right (by decide) (by omega)
    · left; omega
  · omega
 unfold RI RR
 rw [key]
 refine ⟨by omega, fun hz => ?_⟩
 rw [hz]
 rcases h3 with h3 | h3
 · exfalso
   have h0 : m.toNat ≠ 0 := by intro h; rw [h] at h3; simp [bl] at h3; omega
   have : 8388608 * 2 ^ d.toNat ≤ m.toNat := by
    refine Nat.le_trans ?_ (bl_le m.toNat h0)
    rw [show (8388608 : Nat) = 2 ^ 23 from rfl, ← Nat.pow_add]
    exact Nat.pow_le_pow_right (by decide) (by omega)
   have := (Nat.le_div_iff_mul_le (pow_pos' d.toNat)).2 this
   unfold rne at hz
   omega
 · rw [show (p + d + 149).toNat = 0 from by omega]; rfl
/-- by shifting in d bits -/
theorem RI_lift (m p d : Int) (hd : d ≤ 0) (h1 : (bl m.toNat : Int) - 24 ≤ d) (h2 : -149 - p ≤ d) (h3 : d = bl m.toNat - 24 ∨ d = -149 - p) (h5 : m.toNat ≠ 0) (h4 : -900 ≤ p) :
 RI m p = min ((p + d + 149) * 8388608 + (m.toNat * 2 ^ (-d).toNat : Nat)) 2139095040 ∧ m.toNat * 2 ^ (-d).toNat < 16777216 := by
 have hlt : m.toNat * 2 ^ (-d).toNat < 16777216 := by
  refine Nat.lt_of_lt_of_le (Nat.mul_lt_mul_of_pos_right (bl_lt m.toNat) (pow_pos' _)) ?_
  rw [show (16777216 : Nat) = 2 ^ 24 from rfl, ← Nat.pow_add]
  exact Nat.pow_le_pow_right (by decide) (by omega)
 refine ⟨?_, hlt⟩
 have key : V ((p + d + 149).toNat * 8388608 + m.toNat * 2 ^ (-d).toNat) = m.toNat * 2 ^ (p + 1000).toNat := by
  rw [V_of _ _ (Nat.le_of_lt hlt), Nat.mul_assoc, ← Nat.pow_add]
  · congr 2; omega
  · rcases h3 with h3 | h3
    · right
      refine Nat.le_trans ?_ (Nat.mul_le_mul_right _ (bl_le m.toNat h5))
      rw [show (8388608 : Nat) = 2 ^ 23 from rfl, ← Nat.pow_add]
      exact Nat.pow_le_pow_right (by decide) (by omega)
    · left; omega
 unfold RI RR
 rw [← key, R0_V]
 omega
end Go.Proofs.YtoihkljlekknkaaGreat
/-
  The plain mathematics of sums and products of patterns: what is shifted out cannot matter. No condition but that the patterns are numbers.
-/
namespace Go.Proofs.YtoihkljlekknkaaGreat
def sz (a : Int) : Nat := (a % 2147483648).toNat
/-- a number's value with its sign, in units of 2^-149 -/
def sv (a : Int) : Int := if a < 2147483648 then (val (sz a) : Int) else -(val (sz a) : Int)
def U (e : Nat) : Nat := 2 ^ e
theorem U_pos (e : Nat) : 0 < U e := Nat.two_pow_pos e
theorem U_add (a b : Nat) : 2 ^ a * U b = 2 ^ (a + b) := (Nat.pow_add 2 a b).symm
theorem VU (p : Nat) : V p = val p * U 851 := by unfold V val; rw [Nat.mul_assoc, U_add]
def RZ (x : Nat) : Int := (RR (x * U 851) : Nat)
def manI (a : Int) : Int := if a % 2147483648 < 8388608 then a % 2147483648 else a % 8388608 + 8388608
def exI (a : Int) : Int := if a % 2147483648 < 8388608 then -149 else a % 2147483648 / 8388608 - 150
def ADDf (a b : Int) : Int :=
 if sv a + sv b < 0 then 2147483648 + RZ (-(sv a + sv b)).toNat
 else if sv a + sv b = 0 ∧ 2147483648 ≤ a ∧ 2147483648 ≤ b then 2147483648 else RZ (sv a + sv b).toNat
theorem ADDf_comm (a b : Int) : ADDf a b = ADDf b a := by
 unfold ADDf
 rw [Int.add_comm (sv b) (sv a)]
 split
 · rfl
 · split
   · rw [if_pos (by omega)]
   · rw [if_neg (by omega)]
theorem manI_eq (a : Int) : manI a = man (sz a) := by
 unfold manI man sz
 split
 · rw [if_pos (by omega)]; omega
 · rw [if_neg (by omega)]; omega
theorem exI_eq (a : Int) : exI a = ex (sz a) - 149 := by
 unfold exI ex sz
 split <;> omega
theorem exI_bd (a : Int) : -149 ≤ exI a ∧ exI a ≤ 105 := by
 unfold exI; split <;> omega
theorem manI_bd (a : Int) : 0 ≤ manI a ∧ manI a < 16777216 := by unfold manI; split <;> omega
theorem RZ_bd (x : Nat) : 0 ≤ RZ x ∧ RZ x ≤ 2139095040 := by unfold RZ; have := RR_le (x * U 851); omega
theorem RZ_zero : RZ 0 = 0 := by unfold RZ; simp [RR_zero]
theorem RZ_val (p : Nat) (h : p ≤ 2139095040) : RZ (val p) = p := by
 unfold RZ; rw [← VU, RR_V p h]
theorem RZ_mono {x y : Nat} (h : x ≤ y) : RZ x ≤ RZ y := by
 unfold RZ; have := RR_mono (Nat.mul_le_mul_right (U 851) h); omega
theorem val_le {p q : Nat} (h : p ≤ q) : val p ≤ val q := by
 have := V_le h
 rw [VU, VU] at this
 exact Nat.le_of_mul_le_mul_right this (U_pos 851)
theorem val_lt {p q : Nat} (h : p < q) : val p < val q := by
 have := V_mono h
 rw [VU, VU] at this
 exact Nat.lt_of_mul_lt_mul_right this
theorem ex_le {p q : Nat} (h : p ≤ q) : ex p ≤ ex q := by unfold ex; omega
/-- a whole number times 2^e as a multiple of 2^-149 -/
theorem RI_RZ (m e : Int) (x : Nat) (h : -149 ≤ e) (hx : m.toNat * 2 ^ (e + 149).toNat = x) : RI m e = RZ x := by
 unfold RI RZ
 rw [← hx, Nat.mul_assoc, U_add, show (e + 149).toNat + 851 = (e + 1000).toNat from by omega]

theorem R0_near (p c : Nat) (hp : 0 < p) (hc : c < 2 ^ (ex p + 849)) : R0 (V p + c) = p ∧ R0 (V p - c) = p :=
 ⟨R0_of (Rd_near p _ hp (by omega) (by omega)), R0_of (Rd_near p _ hp (by omega) (by omega))⟩
/-- what is far less does not matter -/
theorem far (p q : Nat) (h : ex q + 33 ≤ ex p) (hp : p ≤ 2139095040) : RZ (val p + val q) = p ∧ RZ (val p - val q) = p := by
 have hp0 : 0 < p := by unfold ex at h; omega
 have hc : val q * U 851 < 2 ^ (ex p + 849) := by
  unfold val
  have h1 : man q * 2 ^ ex q * U 851 < 16777216 * 2 ^ ex q * U 851 :=
   Nat.mul_lt_mul_of_pos_right (Nat.mul_lt_mul_of_pos_right (man_lt q) (pow_pos' _)) (U_pos _)
  refine Nat.lt_of_lt_of_le h1 ?_
  rw [show (16777216 : Nat) = 2 ^ 24 from rfl, ← Nat.pow_add, U_add]
  exact Nat.pow_le_pow_right (by decide) (by omega)
 obtain ⟨a, b⟩ := R0_near p _ hp0 hc
 unfold RZ RR
 rw [Nat.add_mul, Nat.sub_mul, ← VU, a, b]
 omega

theorem sv_plus (a : Int) (h : a < 2147483648) : sv a = val (sz a) := by unfold sv; rw [if_pos h]
theorem sv_minus (a : Int) (h : 2147483648 ≤ a) : sv a = -(val (sz a)) := by unfold sv; rw [if_neg (by omega)]
theorem ADDf_same (a b : Int) (h : a / 2147483648 = b / 2147483648) (h0 : 0 ≤ a) (h1 : a < 4294967296) : a / 2147483648 * 2147483648 + RZ (val (sz a) + val (sz b)) = ADDf a b := by
 unfold ADDf
 by_cases ha : a < 2147483648
 · rw [sv_plus a ha, sv_plus b (by omega), if_neg (by omega), if_neg (by omega)]
   rw [show ((val (sz a) : Int) + val (sz b)).toNat = val (sz a) + val (sz b) from by omega]; omega
 · rw [sv_minus a (by omega), sv_minus b (by omega)]
   by_cases hz : val (sz a) + val (sz b) = 0
   · rw [if_neg (by omega), if_pos (by omega), hz, RZ_zero]; omega
   · rw [if_pos (by omega), show (-(-(val (sz a) : Int) + -(val (sz b) : Int))).toNat = val (sz a) + val (sz b) from by omega]; omega
theorem ADDf_diff (a b : Int) (h : a / 2147483648 ≠ b / 2147483648) (h0 : 0 ≤ a) (h1 : a < 4294967296) (g0 : 0 ≤ b) (g1 : b < 4294967296) (hv : val (sz b) < val (sz a)) :
 a / 2147483648 * 2147483648 + RZ (val (sz a) - val (sz b)) = ADDf a b := by
 unfold ADDf
 by_cases ha : a < 2147483648
 · rw [sv_plus a ha, sv_minus b (by omega), if_neg (by omega), if_neg (by omega)]
   rw [show ((val (sz a) : Int) + -(val (sz b) : Int)).toNat = val (sz a) - val (sz b) from by omega]; omega
 · rw [sv_minus a (by omega), sv_plus b (by omega), if_pos (by omega), show (-(-(val (sz a) : Int) + (val (sz b) : Int))).toNat = val (sz a) - val (sz b) from by omega]; omega
theorem ADDf_null (a b : Int) (h : a / 2147483648 ≠ b / 2147483648) (hv : val (sz b) = val (sz a)) (h0 : 0 ≤ a) (h1 : a < 4294967296) (g0 : 0 ≤ b) (g1 : b < 4294967296) : ADDf a b = 0 := by
 unfold ADDf
 by_cases ha : a < 2147483648
 · rw [sv_plus a ha, sv_minus b (by omega), hv, if_neg (by omega), if_neg (by omega), show ((val (sz a) : Int) + -(val (sz a) : Int)).toNat = 0 from by omega, RZ_zero]
 · rw [sv_minus a (by omega), sv_plus b (by omega), hv, if_neg (by omega), if_neg (by omega), show (-(val (sz a) : Int) + (val (sz a) : Int)).toNat = 0 from by omega, RZ_zero]
/-- far apart: the greater one itself -/
theorem ADDf_far (a b : Int) (h0 : 0 ≤ a) (h1 : a < 4294967296) (g0 : 0 ≤ b) (g1 : b < 4294967296) (hs : sz b ≤ sz a) (h : exI b + 32 < exI a) (hf : sz a ≤ 2139095040) : ADDf a b = a := by
 rw [exI_eq, exI_eq] at h
 obtain ⟨e1, e2⟩ := far (sz a) (sz b) (by omega) hf
 have hv : val (sz b) < val (sz a) := val_lt (by
  rcases Nat.lt_or_eq_of_le hs with h' | h'
  · exact h'
  · rw [h'] at h; omega)
 have hz : a / 2147483648 * 2147483648 + sz a = a := by unfold sz; omega
 by_cases hd : a / 2147483648 = b / 2147483648
 · rw [← ADDf_same a b hd h0 h1, e1]; exact hz
 · rw [← ADDf_diff a b hd h0 h1 g0 g1 hv, e2]; exact hz
/-- brought to one power of 2 -/
theorem one_power (p q : Nat) (h : ex q ≤ ex p) : man p * 2 ^ (ex p - ex q) * 2 ^ ex q = val p := by
 unfold val; rw [Nat.mul_assoc, ← Nat.pow_add]; congr 2; omega
theorem RI_sum (a b : Int) (h : exI b ≤ exI a) :
 RI (manI a * 2 ^ (exI a - exI b).toNat + manI b) (exI a - (exI a - exI b)) = RZ (val (sz a) + val (sz b)) ∧
 (manI b ≤ manI a * 2 ^ (exI a - exI b).toNat → RI (manI a * 2 ^ (exI a - exI b).toNat - manI b) (exI a - (exI a - exI b)) = RZ (val (sz a) - val (sz b))) ∧
 (manI a * 2 ^ (exI a - exI b).toNat = manI b ↔ val (sz a) = val (sz b)) ∧ (sz b ≤ sz a → manI b ≤ manI a * 2 ^ (exI a - exI b).toNat) := by
 rw [manI_eq, manI_eq, exI_eq, exI_eq] at *
 have hx : ex (sz b) ≤ ex (sz a) := by omega
 have k := one_power (sz a) (sz b) hx
 rw [show ((ex (sz a) : Int) - 149 - (ex (sz b) - 149)).toNat = ex (sz a) - ex (sz b) from by omega]
 have e : (man (sz a) : Int) * 2 ^ (ex (sz a) - ex (sz b)) = ((man (sz a) * 2 ^ (ex (sz a) - ex (sz b)) : Nat) : Int) := by push_cast; rfl
 rw [e]
 have hp := pow_pos' (ex (sz b))
 refine ⟨?_, ?_, ?_, ?_⟩
 · apply RI_RZ
   · omega
   · rw [← k, show (((man (sz a) * 2 ^ (ex (sz a) - ex (sz b)) : Nat) : Int) + (man (sz b) : Int)).toNat = man (sz a) * 2 ^ (ex (sz a) - ex (sz b)) + man (sz b) from by omega]
     rw [show ((ex (sz a) : Int) - 149 - ((ex (sz a) : Int) - 149 - ((ex (sz b) : Int) - 149)) + 149).toNat = ex (sz b) from by omega, Nat.add_mul]
     rfl
 · intro hle
   apply RI_RZ
   · omega
   · rw [← k, show (((man (sz a) * 2 ^ (ex (sz a) - ex (sz b)) : Nat) : Int) - (man (sz b) : Int)).toNat = man (sz a) * 2 ^ (ex (sz a) - ex (sz b)) - man (sz b) from by omega]
     rw [show ((ex (sz a) : Int) - 149 - ((ex (sz a) : Int) - 149 - ((ex (sz b) : Int) - 149)) + 149).toNat = ex (sz b) from by omega, Nat.sub_mul]
     rfl
 · constructor
   · intro h'
     have : man (sz a) * 2 ^ (ex (sz a) - ex (sz b)) = man (sz b) := by omega
     rw [← k, this]; rfl
   · intro h'
     rw [← k] at h'
     have := Nat.eq_of_mul_eq_mul_right hp h'
     omega
 · intro hs
   have := val_le hs
   rw [← k] at this
   have := Nat.le_of_mul_le_mul_right this hp
   omega
end Go.Proofs.YtoihkljlekknkaaGreat
/-
  The plain mathematics of rounding bit by bit, as the document's answer does it. No condition but the bounds that are named.
-/
namespace Go.Proofs.YtoihkljlekknkaaGreat
/-- behind k halvings: the bit that went last, and whether anything went before it -/
def midB (m k : Nat) : Bool := decide (0 < k ∧ m / 2 ^ (k - 1) % 2 = 1)
def lessB (m k : Nat) : Bool := decide (m % 2 ^ (k - 1) ≠ 0)
theorem midB_succ (m k : Nat) : midB m (k + 1) = decide (m / 2 ^ k % 2 = 1) := by
 unfold midB; rw [show k + 1 - 1 = k from rfl]; simp
theorem mod_split (m k : Nat) : m % 2 ^ (k + 1) = m % 2 ^ k + 2 ^ k * (m / 2 ^ k % 2) := by
 rw [Nat.pow_succ, Nat.mod_mul]
theorem lessB_succ (m k : Nat) : lessB m (k + 1) = (lessB m k || midB m k) := by
 unfold lessB midB
 rw [show k + 1 - 1 = k from rfl]
 cases k with
 | zero => simp [Nat.mod_one]
 | succ k =>
   rw [mod_split, show k + 1 - 1 = k from rfl]
   have hp := pow_pos' k
   have hb : m / 2 ^ k % 2 = 0 ∨ m / 2 ^ k % 2 = 1 := by omega
   rcases hb with hb | hb
   · rw [hb]; simp
   · rw [hb]; simp
theorem div_succ (m k : Nat) : m / 2 ^ (k + 1) = m / 2 ^ k / 2 := by rw [Nat.pow_succ, Nat.div_div_eq_div_mul]
/-- the rounded number is one more just if the last bit went and (one before it, or the number is odd) -/
theorem rne_bits (m k : Nat) : rne m k = m / 2 ^ k + if midB m k = true ∧ (lessB m k = true ∨ m / 2 ^ k % 2 = 1) then 1 else 0 := by
 unfold rne
 congr 1
 cases k with
 | zero =>
   have : midB m 0 = false := by simp [midB]
   rw [this, if_neg (by simp [Nat.mod_one]), if_neg (by simp)]
 | succ k =>
   rw [midB_succ, mod_split]
   unfold lessB
   rw [show k + 1 - 1 = k from rfl]
   have hp := pow_pos' k
   have hr := Nat.mod_lt m hp
   have hb : m / 2 ^ k % 2 = 0 ∨ m / 2 ^ k % 2 = 1 := by omega
   have e : 2 ^ (k + 1) = 2 * 2 ^ k := by rw [Nat.pow_succ]; omega
   generalize m / 2 ^ (k + 1) % 2 = o
   rw [e]
   rcases hb with hb | hb
   · rw [hb, if_neg (by simp only [Nat.mul_zero]; omega), if_neg (by simp)]
   · rw [hb]
     generalize m % 2 ^ k = r at *
     generalize 2 ^ k = t at *
     have c1 : (decide ((1 : Nat) = 1) = true ∧ (decide (r ≠ 0) = true ∨ o = 1)) ↔ (r ≠ 0 ∨ o = 1) := by simp
     by_cases h : r ≠ 0 ∨ o = 1
     · rw [if_pos (by omega), if_pos (c1.2 h)]
     · rw [if_neg (by omega), if_neg (fun g => h (c1.1 g))]
theorem RI_same (m e n f : Int) (hm : 0 ≤ m) (k : Nat) (h : n = m * 2 ^ k) (hf : f + k = e) (hb : -1000 ≤ f) : RI n f = RI m e := by
 unfold RI
 have e1 : n.toNat = m.toNat * 2 ^ k := by
  rw [h]
  obtain ⟨a, rfl⟩ : ∃ a : Nat, m = a := ⟨m.toNat, by omega⟩
  have : (a : Int) * 2 ^ k = ((a * 2 ^ k : Nat) : Int) := by push_cast; rfl
  rw [this, Int.toNat_natCast, Int.toNat_natCast]
 rw [e1, Nat.mul_assoc, ← Nat.pow_add, show k + (f + 1000).toNat = (e + 1000).toNat from by omega]
theorem le_U (a b : Nat) (h : a ≤ b) : 2 ^ a ≤ U b := Nat.pow_le_pow_right (by decide) h
theorem one_U (x : Nat) : (2 * 0 + 1) * 2 ^ (0 + x) = U x := by unfold U; simp
/-- nothing is left -/
theorem RI_gone (m e : Int) (k : Nat) (he : e + k < -149) (h : m.toNat / 2 ^ k = 0) (hm : midB m.toNat k = false) (hb : -900 ≤ e) : RI m e = 0 := by
 unfold RI RR
 have hx : m.toNat < 2 ^ (k - 1) ∨ m.toNat = 0 := by
  cases k with
  | zero => right; simpa using h
  | succ k =>
    left
    rw [midB_succ] at hm
    have hm : ¬ m.toNat / 2 ^ k % 2 = 1 := by simpa using hm
    rw [div_succ] at h
    have : m.toNat / 2 ^ k = 0 := by omega
    rw [show k + 1 - 1 = k from rfl]
    exact (Nat.div_eq_zero_iff.1 this).resolve_left (by have := pow_pos' k; omega)
 rw [R0_of (p := 0)]
 · rfl
 · refine ⟨.inl rfl, .inl ?_⟩
   show _ < mid 0
   have e0 : mid 0 = U 850 := by
    have h1 : man 0 = 0 := rfl
    have h2 : ex 0 = 0 := rfl
    unfold mid
    rw [h1, h2]; exact one_U 850
   rw [e0]
   rcases hx with hx | hx
   · refine Nat.lt_of_lt_of_le (Nat.mul_lt_mul_of_pos_right hx (pow_pos' _)) ?_
     rw [← Nat.pow_add]
     exact le_U _ _ (by omega)
   · rw [hx, Nat.zero_mul]; exact U_pos _
/-- rounded to q: as if q were exact -/
theorem RI_step (m e : Int) (k : Nat) (he : -149 ≤ e + k) (h : m.toNat / 2 ^ k < 16777216) (hk : k = 0 ∨ 16777216 ≤ m.toNat / 2 ^ (k - 1) ∨ e + k - 1 < -149) (hb : -900 ≤ e) (h0 : 0 ≤ m) :
 RI (rne m.toNat k) (e + k) = RI m e ∧ rne m.toNat k ≤ 16777216 := by
 have hr : rne m.toNat k ≤ 16777216 := by unfold rne; split <;> omega
 refine ⟨?_, hr⟩
 by_cases hz : k = 0
 · subst hz
   have : rne m.toNat 0 = m.toNat := by unfold rne; simp [Nat.mod_one]
   rw [this]
   congr 1 <;> omega
 · have hg : (e + k + 149).toNat = 0 ∨ 8388608 * 2 ^ k ≤ m.toNat := by
    rcases hk with hk | hk | hk
    · omega
    · right
      have := (Nat.le_div_iff_mul_le (pow_pos' (k - 1))).1 hk
      obtain ⟨j, rfl⟩ : ∃ j, k = j + 1 := ⟨k - 1, by omega⟩
      rw [show j + 1 - 1 = j from rfl] at this
      rw [Nat.pow_succ]; omega
    · left; omega
   have hge : (e + k + 149).toNat = 0 ∨ 8388608 ≤ rne m.toNat k := by
    refine hg.imp_right fun h => ?_
    unfold rne
    have := (Nat.le_div_iff_mul_le (pow_pos' k)).2 h
    omega
   have key := Rd_shift m.toNat k (e + k + 149).toNat (e + 1000).toNat (by omega) hr hg (by omega)
   have k2 := V_of (e + k + 149).toNat (rne m.toNat k) hr hge
   unfold RI RR
   rw [R0_of key]
   have e1 : ((rne m.toNat k : Int)).toNat * 2 ^ (e + k + 1000).toNat = V ((e + k + 149).toNat * 8388608 + rne m.toNat k) := by
    rw [k2, Int.toNat_natCast, show (e + k + 1000).toNat = (e + k + 149).toNat + 851 from by omega]
   rw [e1, R0_V]
theorem RI_low (m e : Int) (h0 : 0 ≤ m) (h1 : m < 8388608) (h : m = 0 ∨ e = -149) : RI m e = m := by
 by_cases hz : m = 0
 · subst hz; exact RI_zero e
 · have he : e = -149 := by omega
   subst he
   unfold RI RR
   have k2 := V_of (-149 + 149 : Int).toNat m.toNat (by omega) (.inl (by omega))
   rw [show (-149 + 1000 : Int).toNat = (-149 + 149 : Int).toNat + 851 from by omega, ← k2, R0_V]; omega
theorem RI_high (m e : Int) (h0 : 8388608 ≤ m) (h1 : m < 16777216) (he : -149 ≤ e) : RI m e = min ((e + 149) * 8388608 + m) 2139095040 := by
 unfold RI RR
 have k2 := V_of (e + 149).toNat m.toNat (by omega) (.inr (by omega))
 rw [show (e + 1000).toNat = (e + 149).toNat + 851 from by omega, ← k2, R0_V]; omega
end Go.Proofs.YtoihkljlekknkaaGreat
/-
  The plain mathematics of the document's sum: what is too small to matter is a little more or less. Conditions: both are finite patterns.
-/
namespace Go.Proofs.YtoihkljlekknkaaGreat
def exZ (a b gap : Int) : Int := if gap ≤ 37 then 2 ^ gap.toNat * a + b else if 0 < b then 16 * a + 1 else if b < 0 then 16 * a - 1 else a
def exF (b ex ey : Int) : Int := if ex - ey ≤ 37 then ey else if b = 0 then ex else ex - 4
def ng (s : Bool) (m : Int) : Int := if s = true then -m else m
def isNeg (a : Int) : Bool := decide (2147483648 ≤ a)
theorem isNeg_t {a : Int} (h : 2147483648 ≤ a) : isNeg a = true := by unfold isNeg; simpa using h
theorem isNeg_f {a : Int} (h : ¬ 2147483648 ≤ a) : isNeg a = false := by unfold isNeg; simpa using h
theorem ng_sv (a : Int) : sv a = ng (isNeg a) (val (sz a)) := by
 by_cases h : 2147483648 ≤ a
 · rw [sv_minus a h, isNeg_t h]; rfl
 · rw [sv_plus a (by omega), isNeg_f h]; rfl
theorem ng_mul (s : Bool) (m k : Int) : ng s m * k = ng s (m * k) := by
 cases s
 · rfl
 · exact Int.neg_mul _ _
theorem ng_or (s : Bool) (m : Int) : ng s m = m ∨ ng s m = -m := by
 cases s
 · exact .inl rfl
 · exact .inr rfl
theorem pos_pow (n : Nat) : (0 : Int) < 2 ^ n := by
 have : (2 : Int) ^ n = ((2 ^ n : Nat) : Int) := by push_cast; rfl
 rw [this]; have := pow_pos' n; omega
theorem val_man (p : Nat) : (man p : Int) * 2 ^ ex p = (val p : Int) := by unfold val; push_cast; rfl
/-- at one power of 2 the whole number is the sum -/
theorem near_sum (a b : Int) (hle : exI b ≤ exI a) :
 (2 ^ (exI a - exI b).toNat * ng (isNeg a) (manI a) + ng (isNeg b) (manI b)) * 2 ^ ex (sz b) = sv a + sv b := by
 rw [manI_eq, manI_eq, exI_eq, exI_eq] at *
 rw [ng_sv a, ng_sv b, Int.add_mul, ng_mul, val_man]
 congr 1
 rw [Int.mul_comm (2 ^ _) (ng _ _), ng_mul, ng_mul, Int.mul_assoc, ← Int.pow_add, show ((ex (sz a) : Int) - 149 - (ex (sz b) - 149)).toNat + ex (sz b) = ex (sz a) from by omega, val_man]
theorem toNat_mul (z : Int) (k : Nat) (h : 0 ≤ z) : z.toNat * 2 ^ k = (z * 2 ^ k).toNat := by
 obtain ⟨n, rfl⟩ : ∃ n : Nat, z = n := ⟨z.toNat, by omega⟩
 have : (n : Int) * 2 ^ k = ((n * 2 ^ k : Nat) : Int) := by push_cast; rfl
 rw [this, Int.toNat_natCast, Int.toNat_natCast]
theorem near_ok (a b Z : Int) (hZ : Z * 2 ^ ex (sz b) = sv a + sv b) :
 (Z < 0 → RI (-Z) (exI b) + 2147483648 = ADDf a b) ∧ (0 < Z → RI Z (exI b) = ADDf a b) ∧ (Z = 0 → (if 2147483648 ≤ a ∧ 2147483648 ≤ b then 2147483648 else 0) = ADDf a b) := by
 have hp := pos_pow (ex (sz b))
 have he : (exI b + 149).toNat = ex (sz b) := by rw [exI_eq]; omega
 have he' := (exI_bd b).1
 unfold ADDf
 refine ⟨fun h => ?_, fun h => ?_, fun h => ?_⟩
 · have hs : sv a + sv b < 0 := by rw [← hZ]; exact Int.mul_neg_of_neg_of_pos h hp
   rw [if_pos hs, RI_RZ (-Z) (exI b) (-(sv a + sv b)).toNat he' (by rw [he, toNat_mul _ _ (by omega), Int.neg_mul, hZ])]; omega
 · have hs : 0 < sv a + sv b := by rw [← hZ]; exact Int.mul_pos h hp
   rw [if_neg (by omega), if_neg (by omega), RI_RZ Z (exI b) (sv a + sv b).toNat he' (by rw [he, toNat_mul _ _ (by omega), hZ])]
 · have hs : sv a + sv b = 0 := by rw [← hZ, h, Int.zero_mul]
   by_cases hc : 2147483648 ≤ a ∧ 2147483648 ≤ b
   · rw [hs, if_pos hc, if_neg (Int.lt_irrefl 0), if_pos ⟨rfl, hc⟩]
   · rw [hs, if_neg hc, if_neg (Int.lt_irrefl 0), if_neg (fun h => hc h.2), show (0 : Int).toNat = 0 from rfl, RZ_zero]
theorem le_mul_one {a b : Nat} (h : a ≤ b) : 2 ^ a ≤ 2 ^ b := Nat.pow_le_pow_right (by decide) h
/-- a little more or less -/
theorem little (a : Int) (hf : sz a < 2139095040) (hx : 4 ≤ ex (sz a)) : RI (16 * manI a + 1) (exI a - 4) = sz a ∧ RI (16 * manI a - 1) (exI a - 4) = sz a := by
 have hp0 : 0 < sz a := by unfold ex at hx; omega
 have hm := (manI_bd a).1
 have hm8 : 8388608 ≤ manI a := by rw [manI_eq]; unfold man; unfold ex at hx; split <;> omega
 have hc : 2 ^ (ex (sz a) + 847) < 2 ^ (ex (sz a) + 849) := Nat.pow_lt_pow_right (by decide) (by omega)
 obtain ⟨u, l⟩ := R0_near (sz a) _ hp0 hc
 have hV : V (sz a) = 16 * man (sz a) * 2 ^ (ex (sz a) + 847) := by
  unfold V
  rw [show ex (sz a) + 851 = 4 + (ex (sz a) + 847) from by omega, Nat.pow_add, ← Nat.mul_assoc, show (2 : Nat) ^ 4 = 16 from rfl, Nat.mul_comm 16]
 rw [hV] at u l
 have hz : (exI a - 4 + 1000).toNat = ex (sz a) + 847 := by rw [exI_eq]; omega
 unfold RI RR
 rw [hz, manI_eq]
 rw [manI_eq] at hm8
 constructor
 · rw [show (16 * (man (sz a) : Int) + 1).toNat = 16 * man (sz a) + 1 from by omega, Nat.add_mul, Nat.one_mul, u]; omega
 · rw [show (16 * (man (sz a) : Int) - 1).toNat = 16 * man (sz a) - 1 from by omega, Nat.sub_mul, Nat.one_mul, l]; omega
theorem RI_self (a : Int) (hf : sz a < 2139095040) : RI (manI a) (exI a) = sz a := by
 rw [RI_RZ (manI a) (exI a) (val (sz a)) (exI_bd a).1, RZ_val _ (by omega)]
 rw [exI_eq, manI_eq, show ((ex (sz a) : Int) - 149 + 149).toNat = ex (sz a) from by omega, Int.toNat_natCast]; rfl
/-- P2, as the document's answer makes it -/
theorem exact_ok (a b : Int) (h0 : 0 ≤ a) (h1 : a < 4294967296) (g0 : 0 ≤ b) (g1 : b < 4294967296) (ha : sz a < 2139095040) (hle : exI b ≤ exI a) (Z F : Int)
 (hZ : Z = exZ (ng (isNeg a) (manI a)) (ng (isNeg b) (manI b)) (exI a - exI b)) (hF : F = exF (ng (isNeg b) (manI b)) (exI a) (exI b)) :
 (Z < 0 → RI (-Z) F + 2147483648 = ADDf a b) ∧ (0 < Z → RI Z F = ADDf a b) ∧ (Z = 0 → (if 2147483648 ≤ a ∧ 2147483648 ≤ b then 2147483648 else 0) = ADDf a b) ∧
 -2305843009230471168 ≤ Z ∧ Z ≤ 2305843009230471168 ∧ -900 ≤ F ∧ F ≤ 900 := by
 have xa := exI_bd a
 have xb := exI_bd b
 have ma := manI_bd a
 have mb := manI_bd b
 by_cases hg : exI a - exI b ≤ 37
 · have hn := near_sum a b hle
   unfold exZ at hZ
   unfold exF at hF
   rw [if_pos hg] at hZ hF
   rw [← hZ] at hn
   obtain ⟨p, q, r⟩ := near_ok a b Z hn
   subst hF
   refine ⟨p, q, r, ?_⟩
   have hp : (2 : Int) ^ (exI a - exI b).toNat ≤ 137438953472 := by
    have h1 : (2 : Int) ^ (exI a - exI b).toNat = ((2 ^ (exI a - exI b).toNat : Nat) : Int) := by push_cast; rfl
    have := Nat.pow_le_pow_right (n := 2) (by decide) (show (exI a - exI b).toNat ≤ 37 by omega)
    rw [h1]; omega
   have hq := pos_pow (exI a - exI b).toNat
   have hm : 2 ^ (exI a - exI b).toNat * manI a ≤ 137438953472 * 16777215 := Int.mul_le_mul hp (by omega) ma.1 (by omega)
   have hm0 : 0 ≤ 2 ^ (exI a - exI b).toNat * manI a := Int.mul_nonneg (by omega) ma.1
   have e : 2 ^ (exI a - exI b).toNat * -manI a = -(2 ^ (exI a - exI b).toNat * manI a) := Int.mul_neg _ _
   clear hn p q r
   rcases ng_or (isNeg a) (manI a) with ea | ea
   · rcases ng_or (isNeg b) (manI b) with eb | eb
     · rw [ea, eb] at hZ
       generalize 2 ^ (exI a - exI b).toNat * manI a = T at *
       omega
     · rw [ea, eb] at hZ
       generalize 2 ^ (exI a - exI b).toNat * manI a = T at *
       omega
   · rcases ng_or (isNeg b) (manI b) with eb | eb
     · rw [ea, eb, e] at hZ
       generalize 2 ^ (exI a - exI b).toNat * manI a = T at *
       omega
     · rw [ea, eb, e] at hZ
       generalize 2 ^ (exI a - exI b).toNat * manI a = T at *
       omega
 · have hfar := ADDf_far a b h0 h1 g0 g1 (by
    have h1 := exI_eq a; have h2 := exI_eq b
    refine Nat.le_of_not_lt fun h => ?_
    have := ex_le (Nat.le_of_lt h)
    omega) (by omega) (by omega)
   have hx : 4 ≤ ex (sz a) := by have h1 := exI_eq a; have h2 := exI_eq b; omega
   obtain ⟨l1, l2⟩ := little a ha hx
   have l3 := RI_self a ha
   have hm8 : 8388608 ≤ manI a := by rw [manI_eq]; unfold man; unfold ex at hx; split <;> omega
   have hsz : (sz a : Int) = a % 2147483648 := by unfold sz; omega
   unfold exZ at hZ
   unfold exF at hF
   rw [if_neg hg] at hZ hF
   rw [hfar]
   by_cases na : 2147483648 ≤ a
   · rw [isNeg_t na] at hZ
     by_cases nb : 2147483648 ≤ b
     · rw [isNeg_t nb] at hZ hF
       simp only [ng, if_true] at hZ hF
       by_cases hz : manI b = 0
       · rw [if_neg (by omega), if_neg (by omega)] at hZ
         rw [if_pos (by omega)] at hF
         subst hZ hF
         rw [Int.neg_neg, l3]
         refine ⟨fun _ => by omega, fun h => by omega, fun h => by omega, by omega, by omega, by omega, by omega⟩
       · rw [if_neg (by omega), if_pos (by omega)] at hZ
         rw [if_neg (by omega)] at hF
         subst hZ hF
         rw [show -(16 * -manI a - 1) = 16 * manI a + 1 from by omega, l1]
         refine ⟨fun _ => by omega, fun h => by omega, fun h => by omega, by omega, by omega, by omega, by omega⟩
     · rw [isNeg_f nb] at hZ hF
       simp only [ng, if_true, if_false, Bool.false_eq_true] at hZ hF
       by_cases hz : manI b = 0
       · rw [if_neg (by omega), if_neg (by omega)] at hZ
         rw [if_pos (by omega)] at hF
         subst hZ hF
         rw [Int.neg_neg, l3]
         refine ⟨fun _ => by omega, fun h => by omega, fun h => by omega, by omega, by omega, by omega, by omega⟩
       · rw [if_pos (by omega)] at hZ
         rw [if_neg (by omega)] at hF
         subst hZ hF
         rw [show -(16 * -manI a + 1) = 16 * manI a - 1 from by omega, l2]
         refine ⟨fun _ => by omega, fun h => by omega, fun h => by omega, by omega, by omega, by omega, by omega⟩
   · rw [isNeg_f na] at hZ
     by_cases nb : 2147483648 ≤ b
     · rw [isNeg_t nb] at hZ hF
       simp only [ng, if_true, if_false, Bool.false_eq_true] at hZ hF
       by_cases hz : manI b = 0
       · rw [if_neg (by omega), if_neg (by omega)] at hZ
         rw [if_pos (by omega)] at hF
         subst hZ hF
         rw [l3]
         refine ⟨fun _ => by omega, fun h => by omega, fun h => by omega, by omega, by omega, by omega, by omega⟩
       · rw [if_neg (by omega), if_pos (by omega)] at hZ
         rw [if_neg (by omega)] at hF
         subst hZ hF
         rw [l2]
         refine ⟨fun _ => by omega, fun h => by omega, fun h => by omega, by omega, by omega, by omega, by omega⟩
     · rw [isNeg_f nb] at hZ hF
       simp only [ng, if_false, Bool.false_eq_true] at hZ hF
       by_cases hz : manI b = 0
       · rw [if_neg (by omega), if_neg (by omega)] at hZ
         rw [if_pos (by omega)] at hF
         subst hZ hF
         rw [l3]
         refine ⟨fun _ => by omega, fun h => by omega, fun h => by omega, by omega, by omega, by omega, by omega⟩
       · rw [if_pos (by omega)] at hZ
         rw [if_neg (by omega)] at hF
         subst hZ hF
         rw [l1]
         refine ⟨fun _ => by omega, fun h => by omega, fun h => by omega, by omega, by omega, by omega, by omega⟩
end Go.Proofs.YtoihkljlekknkaaGreat
/-
  The plain mathematics of quotients and roots: a rest leaves a bit below, and rounds as the true value does. Conditions: as each theorem names them.
-/
namespace Go.Proofs.YtoihkljlekknkaaGreat
/-- the bit is put behind the number -/
theorem Rf_sticky2 {f : Nat → Nat} (hf : ∀ a b, a < b → f a < f b) (A q k Q p : Nat) (hq : 16777216 ≤ q)
 (h1 : f (q * 2 ^ (k + 1)) ≤ A) (h2 : A < f ((q + 1) * 2 ^ (k + 1)))
 (hQ : (f (q * 2 ^ (k + 1)) = A ∧ Q = 2 * q) ∨ (f (q * 2 ^ (k + 1)) < A ∧ Q = 2 * q + 1))
 (hp : Rd (Q * 2 ^ k) p) : Rf f A p := by
 have hpk := pow_pos' k
 have hpk1 := pow_pos' (k + 1)
 have key : ∀ y, ((∃ j, y = j * 2 ^ (k + 1)) ∨ y < 2 ^ (k + 25)) →
  ((y < Q * 2 ^ k → f y < A) ∧ (y = Q * 2 ^ k → f y = A) ∧ (Q * 2 ^ k < y → A < f y)) := by
  intro y hy
  have e2 : ∀ j : Nat, j * 2 ^ (k + 1) = (2 * j) * 2 ^ k := fun j => by rw [Nat.pow_succ, Nat.mul_comm (2 ^ k) 2, ← Nat.mul_assoc, Nat.mul_comm j 2]
  have hqk : 2 ^ (k + 25) ≤ q * 2 ^ (k + 1) := by
   rw [show k + 25 = 24 + (k + 1) from by omega, Nat.pow_add]; exact Nat.mul_le_mul_right _ hq
  have hqQ : q * 2 ^ (k + 1) ≤ Q * 2 ^ k := by rw [e2]; exact Nat.mul_le_mul_right _ (by omega)
  rcases hy with ⟨j, rfl⟩ | hy
  · have hc : ∀ {a b : Nat}, a * 2 ^ k < b * 2 ^ k ↔ a < b := fun {a b} => ⟨fun h => Nat.lt_of_mul_lt_mul_right h, fun h => Nat.mul_lt_mul_of_pos_right h hpk⟩
    have hfm : ∀ {a b : Nat}, a ≤ b → f (a * 2 ^ (k + 1)) ≤ f (b * 2 ^ (k + 1)) := by
     intro a b h
     rcases Nat.lt_or_eq_of_le h with h | h
     · exact Nat.le_of_lt (hf _ _ (Nat.mul_lt_mul_of_pos_right h hpk1))
     · rw [h]; exact Nat.le_refl _
    refine ⟨fun h => ?_, fun h => ?_, fun h => ?_⟩
    · rw [e2] at h
      have h := hc.1 h
      rcases hQ with ⟨e, rfl⟩ | ⟨e, rfl⟩
      · rw [← e]; exact hf _ _ (Nat.mul_lt_mul_of_pos_right (by omega) hpk1)
      · exact Nat.lt_of_le_of_lt (hfm (by omega)) e
    · rw [e2] at h
      have h : 2 * j = Q := Nat.eq_of_mul_eq_mul_right hpk h
      rcases hQ with ⟨e, rfl⟩ | ⟨e, rfl⟩
      · rw [show j = q from by omega, e]
      · omega
    · rw [e2] at h
      have h := hc.1 h
      rcases hQ with ⟨e, rfl⟩ | ⟨e, rfl⟩
      · rw [← e]; exact hf _ _ (Nat.mul_lt_mul_of_pos_right (by omega) hpk1)
      · exact Nat.lt_of_lt_of_le h2 (hfm (by omega))
  · refine ⟨fun _ => ?_, fun h => ?_, fun h => ?_⟩
    · exact Nat.lt_of_lt_of_le (hf y (q * 2 ^ (k + 1)) (by omega)) h1
    · omega
    · omega
 obtain ⟨l, u⟩ := hp
 refine ⟨?_, ?_⟩
 · rcases l with l | l | l
   · exact .inl l
   · exact .inr (.inl ((key _ (mid_or k (p - 1))).1 l))
   · exact .inr (.inr ⟨(key _ (mid_or k (p - 1))).2.1 l.1, l.2⟩)
 · rcases u with u | u
   · exact .inl ((key _ (mid_or k p)).2.2 u)
   · exact .inr ⟨((key _ (mid_or k p)).2.1 u.1.symm).symm, u.2⟩
/-- a rest leaves a bit (whole numbers) -/
def stickN (q r : Nat) : Nat := if r = 0 then q else if q % 2 = 0 then q + 1 else q
theorem mul_mono {B : Nat} (hB : 0 < B) : ∀ a b, a < b → a * B < b * B := fun _ _ h => Nat.mul_lt_mul_of_pos_right h hB
theorem mulp (a b c d : Nat) (h : c + d = b) : a * 2 ^ c * 2 ^ d = a * 2 ^ b := by rw [Nat.mul_assoc, ← Nat.pow_add, h]
/-- a quotient of 40 bits or more, the bit set within it -/
theorem div_one (A B up k D : Nat) (hB : 0 < B) (hq : 33554432 ≤ A * 2 ^ up / B) (hD : up + k = D) :
 Rf (· * B) (A * 2 ^ D) (R0 (stickN (A * 2 ^ up / B) (A * 2 ^ up % B) * 2 ^ k)) := by
 have hm := Nat.div_add_mod (A * 2 ^ up) B
 have hr := Nat.mod_lt (A * 2 ^ up) hB
 have hA : A * 2 ^ D = A * 2 ^ up * 2 ^ k := by rw [mulp]; exact hD
 have hpk := pow_pos' k
 refine Rf_sticky (mul_mono hB) _ (A * 2 ^ up / B) k _ _ hq ?_ ?_ ?_ (R0_Rd _)
 · rw [hA]
   show A * 2 ^ up / B * 2 ^ k * B ≤ _
   rw [Nat.mul_right_comm (A * 2 ^ up / B) (2 ^ k) B]
   exact Nat.mul_le_mul_right _ (Nat.div_mul_le_self _ _)
 · rw [hA]
   show _ < (A * 2 ^ up / B + 1) * 2 ^ k * B
   rw [Nat.mul_right_comm (A * 2 ^ up / B + 1) (2 ^ k) B]
   refine Nat.mul_lt_mul_of_pos_right ?_ hpk
   rw [Nat.add_mul, Nat.one_mul, Nat.mul_comm (A * 2 ^ up / B) B]; omega
 · have hc : A * 2 ^ up / B * 2 ^ k * B = B * (A * 2 ^ up / B) * 2 ^ k := by rw [Nat.mul_right_comm, Nat.mul_comm (A * 2 ^ up / B) B]
   show (A * 2 ^ up / B * 2 ^ k * B = _ ∧ _) ∨ (A * 2 ^ up / B * 2 ^ k * B < _ ∧ _) ∨ (A * 2 ^ up / B * 2 ^ k * B < _ ∧ _)
   rw [hc, hA]
   by_cases h0 : A * 2 ^ up % B = 0
   · left
     refine ⟨by congr 1; omega, ?_⟩
     unfold stickN; rw [if_pos h0]
   · right
     have hlt : B * (A * 2 ^ up / B) * 2 ^ k < A * 2 ^ up * 2 ^ k := Nat.mul_lt_mul_of_pos_right (by omega) hpk
     unfold stickN; rw [if_neg h0]
     by_cases hp : A * 2 ^ up / B % 2 = 0
     · right; rw [if_pos hp]; exact ⟨hlt, rfl, hp⟩
     · left; rw [if_neg hp]; exact ⟨hlt, rfl, by omega⟩
/-- a quotient of both made full, the bit set behind it -/
theorem div_two (A B u1 u2 k D : Nat) (hB : 0 < B) (h1 : 8388608 ≤ A * 2 ^ u1) (h2 : B * 2 ^ u2 < 16777216) (hD : u1 + 36 + (k + 1) = D + u2) :
 Rf (· * B) (A * 2 ^ D) (R0 ((2 * (A * 2 ^ u1 * 2 ^ 36 / (B * 2 ^ u2)) + if A * 2 ^ u1 * 2 ^ 36 % (B * 2 ^ u2) = 0 then 0 else 1) * 2 ^ k)) := by
 have hC : 0 < B * 2 ^ u2 := Nat.mul_pos hB (pow_pos' u2)
 have hm := Nat.div_add_mod (A * 2 ^ u1 * 2 ^ 36) (B * 2 ^ u2)
 have hr := Nat.mod_lt (A * 2 ^ u1 * 2 ^ 36) hC
 have hpk := pow_pos' (k + 1)
 have hpu := pow_pos' u2
 have hq : 16777216 ≤ A * 2 ^ u1 * 2 ^ 36 / (B * 2 ^ u2) := by
  rw [Nat.le_div_iff_mul_le hC]
  refine Nat.le_trans (Nat.mul_le_mul_left _ (Nat.le_of_lt h2)) ?_
  rw [show (16777216 : Nat) * 16777216 = 4096 * 2 ^ 36 from rfl]
  exact Nat.mul_le_mul_right _ (by omega)
 have hN : A * 2 ^ u1 * 2 ^ 36 * 2 ^ (k + 1) = A * 2 ^ D * 2 ^ u2 := by
  rw [Nat.mul_assoc, Nat.mul_assoc, ← Nat.pow_add, ← Nat.pow_add, Nat.mul_assoc, ← Nat.pow_add]; congr 2; omega
 generalize A * 2 ^ u1 * 2 ^ 36 = N at *
 generalize hqq : N / (B * 2 ^ u2) = q at *
 generalize N % (B * 2 ^ u2) = r at *
 have hx : ∀ z : Nat, z * 2 ^ (k + 1) * B * 2 ^ u2 = B * 2 ^ u2 * z * 2 ^ (k + 1) := by
  intro z
  rw [Nat.mul_comm (B * 2 ^ u2) z, Nat.mul_assoc z _ (2 ^ (k + 1)), Nat.mul_comm (B * 2 ^ u2) (2 ^ (k + 1)), Nat.mul_assoc, Nat.mul_assoc]
 refine Rf_sticky2 (mul_mono hB) _ q k _ _ hq ?_ ?_ ?_ (R0_Rd _)
 · show q * 2 ^ (k + 1) * B ≤ _
   refine Nat.le_of_mul_le_mul_right ?_ hpu
   rw [hx, ← hN]
   exact Nat.mul_le_mul_right _ (by omega)
 · show _ < (q + 1) * 2 ^ (k + 1) * B
   refine Nat.lt_of_mul_lt_mul_right (a := 2 ^ u2) ?_
   rw [hx, ← hN]
   refine Nat.mul_lt_mul_of_pos_right ?_ hpk
   rw [Nat.mul_add, Nat.mul_one]; omega
 · show (q * 2 ^ (k + 1) * B = _ ∧ _) ∨ (q * 2 ^ (k + 1) * B < _ ∧ _)
   by_cases h0 : r = 0
   · left
     rw [if_pos h0]
     refine ⟨Nat.eq_of_mul_eq_mul_right hpu ?_, by omega⟩
     rw [hx, ← hN]; congr 1; omega
   · right
     rw [if_neg h0]
     refine ⟨Nat.lt_of_mul_lt_mul_right (a := 2 ^ u2) ?_, rfl⟩
     rw [hx, ← hN]
     exact Nat.mul_lt_mul_of_pos_right (by omega) hpk
theorem sq_mono : ∀ a b : Nat, a < b → a * a < b * b := fun _ _ h => Nat.mul_self_lt_mul_self h
theorem sq_pow (r k : Nat) : r * 2 ^ k * (r * 2 ^ k) = r * r * 2 ^ (2 * k) := by
 rw [show 2 * k = k + k from by omega, Nat.pow_add]
 rw [Nat.mul_assoc, Nat.mul_left_comm (2 ^ k) r, ← Nat.mul_assoc, ← Nat.mul_assoc]
/-- a root of 26 bits or more, the bit set within it: A times 2^up is m, the power is even -/
theorem root_one (A m r k D : Nat) (hm : m * 2 ^ (2 * k) = A * 2 ^ D) (hr : r * r ≤ m) (hr1 : m < (r + 1) * (r + 1)) (hq : 33554432 ≤ r) :
 Rf (fun y => y * y) (A * 2 ^ D) (R0 (stickN r (m - r * r) * 2 ^ k)) := by
 have hpk := pow_pos' (2 * k)
 refine Rf_sticky sq_mono _ r k _ _ hq ?_ ?_ ?_ (R0_Rd _)
 · show r * 2 ^ k * (r * 2 ^ k) ≤ _
   rw [sq_pow, ← hm]; exact Nat.mul_le_mul_right _ hr
 · show _ < (r + 1) * 2 ^ k * ((r + 1) * 2 ^ k)
   rw [sq_pow, ← hm]; exact Nat.mul_lt_mul_of_pos_right hr1 hpk
 · show (r * 2 ^ k * (r * 2 ^ k) = _ ∧ _) ∨ (r * 2 ^ k * (r * 2 ^ k) < _ ∧ _) ∨ (r * 2 ^ k * (r * 2 ^ k) < _ ∧ _)
   rw [sq_pow, ← hm]
   by_cases h0 : m - r * r = 0
   · left
     refine ⟨by congr 1; omega, ?_⟩
     unfold stickN; rw [if_pos h0]
   · right
     have hlt : r * r * 2 ^ (2 * k) < m * 2 ^ (2 * k) := Nat.mul_lt_mul_of_pos_right (by omega) hpk
     unfold stickN; rw [if_neg h0]
     by_cases hp : r % 2 = 0
     · right; rw [if_pos hp]; exact ⟨hlt, rfl, hp⟩
     · left; rw [if_neg hp]; exact ⟨hlt, rfl, by omega⟩
/-- a root, the bit set behind it -/
theorem root_two (A m r k D : Nat) (hm : m * 2 ^ (2 * (k + 1)) = A * 2 ^ D) (hr : r * r ≤ m) (hr1 : m < (r + 1) * (r + 1)) (hq : 16777216 ≤ r) :
 Rf (fun y => y * y) (A * 2 ^ D) (R0 ((2 * r + if r * r = m then 0 else 1) * 2 ^ k)) := by
 have hpk := pow_pos' (2 * (k + 1))
 refine Rf_sticky2 sq_mono _ r k _ _ hq ?_ ?_ ?_ (R0_Rd _)
 · show r * 2 ^ (k + 1) * (r * 2 ^ (k + 1)) ≤ _
   rw [sq_pow, ← hm]; exact Nat.mul_le_mul_right _ hr
 · show _ < (r + 1) * 2 ^ (k + 1) * ((r + 1) * 2 ^ (k + 1))
   rw [sq_pow, ← hm]; exact Nat.mul_lt_mul_of_pos_right hr1 hpk
 · show (r * 2 ^ (k + 1) * (r * 2 ^ (k + 1)) = _ ∧ _) ∨ (r * 2 ^ (k + 1) * (r * 2 ^ (k + 1)) < _ ∧ _)
   rw [sq_pow, ← hm]
   by_cases h0 : r * r = m
   · left; rw [if_pos h0]; exact ⟨by rw [h0], by omega⟩
   · right; rw [if_neg h0]; exact ⟨Nat.mul_lt_mul_of_pos_right (by omega) hpk, rfl⟩
end Go.Proofs.YtoihkljlekknkaaGreat
