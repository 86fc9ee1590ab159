/-
  The plain mathematics of rounding bit by bit, as the document's answer does it. No condition but the bounds that are named.
-/
import Derived.Test.YtkncmjnakjkndaaMath2
namespace Go.Proofs.Ytkncmjnakjkndaa
/-- behind k halvings: the bit that went last, and whether anything went before it -/
def midB (m k : Nat) : Bool := decide (0 < k ∧ m / 2 ^ (k - 1) % 2 = 1)
def lessB (m k : Nat) : Bool := decide (m % 2 ^ (k - 1) ≠ 0)
theorem midB_succ (m k : Nat) : midB m (k + 1) = decide (m / 2 ^ k % 2 = 1) := by
  unfold midB; rw [show k + 1 - 1 = k from rfl]; simp
theorem mod_split (m k : Nat) : m % 2 ^ (k + 1) = m % 2 ^ k + 2 ^ k * (m / 2 ^ k % 2) := by
  rw [Nat.pow_succ, Nat.mod_mul]
theorem lessB_succ (m k : Nat) : lessB m (k + 1) = (lessB m k || midB m k) := by
  unfold lessB midB
  rw [show k + 1 - 1 = k from rfl]
  cases k with
  | zero => simp [Nat.mod_one]
  | succ k =>
    rw [mod_split, show k + 1 - 1 = k from rfl]
    have hp := pow_pos' k
    have hb : m / 2 ^ k % 2 = 0 ∨ m / 2 ^ k % 2 = 1 := by omega
    rcases hb with hb | hb
    · rw [hb]; simp
    · rw [hb]; simp
theorem div_succ (m k : Nat) : m / 2 ^ (k + 1) = m / 2 ^ k / 2 := by rw [Nat.pow_succ, Nat.div_div_eq_div_mul]
/-- the rounded number is one more just if the last bit went and (one before it, or the number is odd) -/
theorem rne_bits (m k : Nat) : rne m k = m / 2 ^ k + if midB m k = true ∧ (lessB m k = true ∨ m / 2 ^ k % 2 = 1) then 1 else 0 := by
  unfold rne
  congr 1
  cases k with
  | zero =>
    have : midB m 0 = false := by simp [midB]
    rw [this, if_neg (by simp [Nat.mod_one]), if_neg (by simp)]
  | succ k =>
    rw [midB_succ, mod_split]
    unfold lessB
    rw [show k + 1 - 1 = k from rfl]
    have hp := pow_pos' k
    have hr := Nat.mod_lt m hp
    have hb : m / 2 ^ k % 2 = 0 ∨ m / 2 ^ k % 2 = 1 := by omega
    have e : 2 ^ (k + 1) = 2 * 2 ^ k := by rw [Nat.pow_succ]; omega
    generalize m / 2 ^ (k + 1) % 2 = o
    rw [e]
    rcases hb with hb | hb
    · rw [hb, if_neg (by simp only [Nat.mul_zero]; omega), if_neg (by simp)]
    · rw [hb]
      generalize m % 2 ^ k = r at *
      generalize 2 ^ k = t at *
      have c1 : (decide ((1 : Nat) = 1) = true ∧ (decide (r ≠ 0) = true ∨ o = 1)) ↔ (r ≠ 0 ∨ o = 1) := by simp
      by_cases h : r ≠ 0 ∨ o = 1
      · rw [if_pos (by omega), if_pos (c1.2 h)]
      · rw [if_neg (by omega), if_neg (fun g => h (c1.1 g))]
theorem RI_same (m e n f : Int) (hm : 0 ≤ m) (k : Nat) (h : n = m * 2 ^ k) (hf : f + k = e) (hb : -1000 ≤ f) : RI n f = RI m e := by
  unfold RI
  have e1 : n.toNat = m.toNat * 2 ^ k := by
    rw [h]
    obtain ⟨a, rfl⟩ : ∃ a : Nat, m = a := ⟨m.toNat, by omega⟩
    have : (a : Int) * 2 ^ k = ((a * 2 ^ k : Nat) : Int) := by push_cast; rfl
    rw [this, Int.toNat_natCast, Int.toNat_natCast]
  rw [e1, Nat.mul_assoc, ← Nat.pow_add, show k + (f + 1000).toNat = (e + 1000).toNat from by omega]
theorem le_U (a b : Nat) (h : a ≤ b) : 2 ^ a ≤ U b := Nat.pow_le_pow_right (by decide) h
theorem one_U (x : Nat) : (2 * 0 + 1) * 2 ^ (0 + x) = U x := by unfold U; simp
/-- nothing is left -/
theorem RI_gone (m e : Int) (k : Nat) (he : e + k < -149) (h : m.toNat / 2 ^ k = 0) (hm : midB m.toNat k = false) (hb : -900 ≤ e) : RI m e = 0 := by
  unfold RI RR
  have hx : m.toNat < 2 ^ (k - 1) ∨ m.toNat = 0 := by
    cases k with
    | zero => right; simpa using h
    | succ k =>
      left
      rw [midB_succ] at hm
      have hm : ¬ m.toNat / 2 ^ k % 2 = 1 := by simpa using hm
      rw [div_succ] at h
      have : m.toNat / 2 ^ k = 0 := by omega
      rw [show k + 1 - 1 = k from rfl]
      exact (Nat.div_eq_zero_iff.1 this).resolve_left (by have := pow_pos' k; omega)
  rw [R0_of (p := 0)]
  · rfl
  · refine ⟨.inl rfl, .inl ?_⟩
    show _ < mid 0
    have e0 : mid 0 = U 850 := by
      have h1 : man 0 = 0 := rfl
      have h2 : ex 0 = 0 := rfl
      unfold mid
      rw [h1, h2]; exact one_U 850
    rw [e0]
    rcases hx with hx | hx
    · refine Nat.lt_of_lt_of_le (Nat.mul_lt_mul_of_pos_right hx (pow_pos' _)) ?_
      rw [← Nat.pow_add]
      exact le_U _ _ (by omega)
    · rw [hx, Nat.zero_mul]; exact U_pos _
/-- rounded to q: as if q were exact -/
theorem RI_step (m e : Int) (k : Nat) (he : -149 ≤ e + k) (h : m.toNat / 2 ^ k < 16777216) (hk : k = 0 ∨ 16777216 ≤ m.toNat / 2 ^ (k - 1) ∨ e + k - 1 < -149) (hb : -900 ≤ e) (h0 : 0 ≤ m) :
    RI (rne m.toNat k) (e + k) = RI m e ∧ rne m.toNat k ≤ 16777216 := by
  have hr : rne m.toNat k ≤ 16777216 := by unfold rne; split <;> omega
  refine ⟨?_, hr⟩
  by_cases hz : k = 0
  · subst hz
    have : rne m.toNat 0 = m.toNat := by unfold rne; simp [Nat.mod_one]
    rw [this]
    congr 1 <;> omega
  · have hg : (e + k + 149).toNat = 0 ∨ 8388608 * 2 ^ k ≤ m.toNat := by
      rcases hk with hk | hk | hk
      · omega
      · right
        have := (Nat.le_div_iff_mul_le (pow_pos' (k - 1))).1 hk
        obtain ⟨j, rfl⟩ : ∃ j, k = j + 1 := ⟨k - 1, by omega⟩
        rw [show j + 1 - 1 = j from rfl] at this
        rw [Nat.pow_succ]; omega
      · left; omega
    have hge : (e + k + 149).toNat = 0 ∨ 8388608 ≤ rne m.toNat k := by
      refine hg.imp_right fun h => ?_
      unfold rne
      have := (Nat.le_div_iff_mul_le (pow_pos' k)).2 h
      omega
    have key := Rd_shift m.toNat k (e + k + 149).toNat (e + 1000).toNat (by omega) hr hg (by omega)
    have k2 := V_of (e + k + 149).toNat (rne m.toNat k) hr hge
    unfold RI RR
    rw [R0_of key]
    have e1 : ((rne m.toNat k : Int)).toNat * 2 ^ (e + k + 1000).toNat = V ((e + k + 149).toNat * 8388608 + rne m.toNat k) := by
      rw [k2, Int.toNat_natCast, show (e + k + 1000).toNat = (e + k + 149).toNat + 851 from by omega]
    rw [e1, R0_V]
theorem RI_low (m e : Int) (h0 : 0 ≤ m) (h1 : m < 8388608) (h : m = 0 ∨ e = -149) : RI m e = m := by
  by_cases hz : m = 0
  · subst hz; exact RI_zero e
  · have he : e = -149 := by omega
    subst he
    unfold RI RR
    have k2 := V_of (-149 + 149 : Int).toNat m.toNat (by omega) (.inl (by omega))
    rw [show (-149 + 1000 : Int).toNat = (-149 + 149 : Int).toNat + 851 from by omega, ← k2, R0_V]; omega
theorem RI_high (m e : Int) (h0 : 8388608 ≤ m) (h1 : m < 16777216) (he : -149 ≤ e) : RI m e = min ((e + 149) * 8388608 + m) 2139095040 := by
  unfold RI RR
  have k2 := V_of (e + 149).toNat m.toNat (by omega) (.inr (by omega))
  rw [show (e + 1000).toNat = (e + 149).toNat + 851 from by omega, ← k2, R0_V]; omega
end Go.Proofs.Ytkncmjnakjkndaa
