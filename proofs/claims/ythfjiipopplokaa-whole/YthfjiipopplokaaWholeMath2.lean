/-
  With whole numbers quotients that come out, roots of squares, comparison and the way back are exact. Conditions: the numbers are -4000 to 4000.
-/
import Derived.Test.YthfjiipopplokaaWholeMath
namespace Go.Proofs.Ythfjiipopplokaa
set_option linter.unusedVariables false
set_option linter.unusedSimpArgs false
theorem stick_N2 (q r : Nat) : stick (q : Int) (r : Int) = (stickN q r : Nat) := by
  unfold stick stickN
  by_cases h : r = 0
  · rw [if_pos (by omega), if_pos h]
  · rw [if_neg (by omega), if_neg h]
    by_cases g : q % 2 = 0
    · rw [if_pos (by omega), if_pos g]; omega
    · rw [if_neg (by omega), if_neg g]
theorem SQ_exact (a : Int) (ma : manI a ≠ 0) (X : Nat) (hX : man (sz a) * 2 ^ (exI a + 2000).toNat = X * X) : SQ a = (RR X : Nat) := by
  have m1 := manI_bd a
  have xa := exI_bd a
  have hub := upI_bd a
  have hsq := sqM_bd a ma
  have hev2 : (exI a - evI a) % 2 = 0 := by unfold evI; split <;> omega
  have hevb : 39 ≤ evI a ∧ evI a ≤ 64 := by unfold evI; split <;> omega
  obtain ⟨n, hn⟩ : ∃ n : Nat, sqM a = n := ⟨(sqM a).toNat, by omega⟩
  have hnA : n = man (sz a) * 2 ^ (evI a).toNat := by
    have : (n : Int) = ((man (sz a) * 2 ^ (evI a).toNat : Nat) : Int) := by rw [← hn]; unfold sqM; rw [manI_eq, mpc]
    omega
  obtain ⟨b1, b2⟩ := rt_spec n (by omega)
  have q2 : 33554432 ≤ rt n := by
    refine Nat.le_of_not_lt fun g => ?_
    have := Nat.mul_self_le_mul_self (show rt n + 1 ≤ 33554432 by omega); omega
  have k2 := root_one (man (sz a)) n (rt n) ((exI a - evI a) / 2 + 1000).toNat (exI a + 2000).toNat (by
    rw [hnA, Nat.mul_assoc, ← Nat.pow_add]; congr 2; omega) b1 b2 q2
  rw [hX] at k2
  have key := Rf_unique sq_mono k2 (Rf_exact sq_mono X)
  unfold SQ RI RR
  rw [hn, Int.toNat_natCast]
  have e2 : (stick (rt n : Int) ((n : Int) - rt n * rt n)).toNat = stickN (rt n) (n - rt n * rt n) := by
    have : ((n : Int) - (rt n : Int) * rt n) = ((n - rt n * rt n : Nat) : Int) := by
      have : ((rt n * rt n : Nat) : Int) = (rt n : Int) * rt n := by push_cast; rfl
      omega
    rw [this, stick_N2, Int.toNat_natCast]
  rw [e2, key]
theorem DQ_exact (a b : Int) (ma : manI a ≠ 0) (mb : manI b ≠ 0) (X : Nat) (hX : man (sz a) * 2 ^ (exI a - exI b + 1000).toNat = X * man (sz b)) : DQ a b = (RR X : Nat) := by
  have m1 := manI_bd a
  have m2 := manI_bd b
  have xa := exI_bd a
  have xb := exI_bd b
  have hu := upI_bd a
  have ht := topI_bd a ma
  have hA := manI_eq a
  have hB := manI_eq b
  have hBp : 0 < man (sz b) := by omega
  unfold topI at ht
  rw [hA, ← mpc] at ht
  have k1 := div_one (man (sz a)) (man (sz b)) (upI a).toNat (exI a - upI a - exI b + 1000).toNat (exI a - exI b + 1000).toNat hBp (by
    rw [Nat.le_div_iff_mul_le hBp]
    refine Nat.le_trans (Nat.mul_le_mul_left _ (show man (sz b) ≤ 16777216 by omega)) ?_
    omega) (by omega)
  rw [hX] at k1
  have key := Rf_unique (mul_mono hBp) k1 (Rf_exact (f := fun y => y * man (sz b)) (mul_mono hBp) X)
  unfold DQ topI RI RR
  rw [hA, hB, ← mpc]
  have e1 : stick (((man (sz a) * 2 ^ (upI a).toNat : Nat) : Int) / (man (sz b) : Int)) (((man (sz a) * 2 ^ (upI a).toNat : Nat) : Int) % (man (sz b) : Int)) = ((stickN (man (sz a) * 2 ^ (upI a).toNat / man (sz b)) (man (sz a) * 2 ^ (upI a).toNat % man (sz b)) : Nat) : Int) := by
    rw [← stick_N2]; rfl
  rw [e1, Int.toNat_natCast, key]
/-- N times 2^1000 -/
theorem RI_U' (N : Nat) (e : Int) : RI N e = (RR (N * U (e + 1000).toNat) : Nat) := by unfold RI U; rw [Int.toNat_natCast]
theorem RI_U (N : Nat) : RI N 0 = (RR (N * U 1000) : Nat) := by rw [RI_U', show ((0 : Int) + 1000).toNat = 1000 from rfl]
theorem man_ne (a : Int) (N : Nat) (h : val (sz a) = N * 2 ^ 149) (hN : N ≠ 0) : manI a ≠ 0 := by
  intro g
  rw [manI_eq] at g
  have : man (sz a) = 0 := by omega
  unfold val at h
  rw [this, Nat.zero_mul] at h
  have := Nat.mul_pos (show 0 < N by omega) (pow_pos' 149)
  omega
theorem sq_U (N k u : Nat) : N * N * 2 ^ k * U (k + 2 * u) = (N * U (k + u)) * (N * U (k + u)) := by
  have e1 : U (k + 2 * u) = U (u + u) * 2 ^ k := by unfold U; rw [← Nat.pow_add]; congr 1; omega
  have e2 : U (u + u) = U u * U u := by unfold U; rw [Nat.pow_add]
  have e3 : U (k + u) = U u * 2 ^ k := by unfold U; rw [← Nat.pow_add]; congr 1; omega
  rw [e1, e2, e3]
  generalize 2 ^ k = p
  generalize U u = r
  simp only [Nat.mul_assoc, Nat.mul_left_comm, Nat.mul_comm]
theorem SQ_whole (a : Int) (N : Nat) (hN : N ≠ 0) (h : val (sz a) = N * N * 2 ^ 149) : SQ a = RI N 0 := by
  have xa := exI_bd a
  rw [RI_U]
  refine SQ_exact a (man_ne a (N * N) h (Nat.mul_ne_zero hN hN)) (N * U (149 + 851)) ?_
  rw [← sq_U N 149 851, ← h]
  unfold val
  rw [Nat.mul_assoc, U_add]
  congr 2
  have := exI_eq a
  omega
theorem DQ_whole (a b : Int) (M N : Nat) (hM : M ≠ 0) (hN : N ≠ 0) (ha : val (sz a) = M * N * 2 ^ 149) (hb : val (sz b) = N * 2 ^ 149) : DQ a b = RI M 0 := by
  have xa := exI_bd a
  have xb := exI_bd b
  rw [RI_U]
  refine DQ_exact a b (man_ne a (M * N) ha (Nat.mul_ne_zero hM hN)) (man_ne b N hb hN) (M * U 1000) ?_
  refine Nat.eq_of_mul_eq_mul_right (pow_pos' (ex (sz b))) ?_
  have ea := exI_eq a
  have eb := exI_eq b
  have e1 : man (sz a) * 2 ^ (exI a - exI b + 1000).toNat * 2 ^ ex (sz b) = val (sz a) * U 1000 := by
    unfold val
    rw [Nat.mul_assoc, ← Nat.pow_add, Nat.mul_assoc, U_add]
    congr 2; omega
  have e2 : M * U 1000 * man (sz b) * 2 ^ ex (sz b) = M * U 1000 * val (sz b) := by unfold val; rw [Nat.mul_assoc]
  rw [e1, e2, ha, hb]
  generalize U 1000 = u
  generalize (2 : Nat) ^ 149 = p
  simp only [Nat.mul_assoc, Nat.mul_left_comm, Nat.mul_comm]
theorem rne_exact (N d : Nat) : rne (N * 2 ^ d) d = N := by
  unfold rne
  have := pow_pos' d
  rw [Nat.mul_div_cancel _ this, Nat.mul_mod_left, if_neg (by omega)]; rfl
theorem whole_back (x : Int) (hx : -4001 < x ∧ x < 4001) : TOI (FROMI x) = x := by
  obtain ⟨a1, a2, a3, a4, va, _⟩ := from_ok x (by omega) (by omega)
  have m1 := manI_bd (FROMI x)
  have ea := exI_eq (FROMI x)
  have ma := manI_eq (FROMI x)
  have hex : ex (sz (FROMI x)) < 149 := by
    refine Nat.lt_of_not_le fun h => ?_
    have hm : 8388608 ≤ man (sz (FROMI x)) := by
      unfold man; unfold ex at h; split <;> omega
    unfold val at va
    have : man (sz (FROMI x)) * 2 ^ (ex (sz (FROMI x)) - 149) = x.natAbs := by
      refine Nat.eq_of_mul_eq_mul_right (pow_pos' 149) ?_
      rw [Nat.mul_assoc, ← Nat.pow_add, show ex (sz (FROMI x)) - 149 + 149 = ex (sz (FROMI x)) from by omega]; exact va
    have hp := Nat.mul_le_mul hm (pow_pos' (ex (sz (FROMI x)) - 149))
    omega
  have hman : man (sz (FROMI x)) = x.natAbs * 2 ^ (149 - ex (sz (FROMI x))) := by
    refine Nat.eq_of_mul_eq_mul_right (pow_pos' (ex (sz (FROMI x)))) ?_
    rw [Nat.mul_assoc, ← Nat.pow_add, show 149 - ex (sz (FROMI x)) + ex (sz (FROMI x)) = 149 from by omega]; exact va
  have hW : WH (manI (FROMI x)) (exI (FROMI x)) = x.natAbs := by
    unfold WH
    rw [if_pos (by omega), ma, Int.toNat_natCast, ea, show (-((ex (sz (FROMI x)) : Int) - 149)).toNat = 149 - ex (sz (FROMI x)) from by omega]
    have : rne (man (sz (FROMI x))) (149 - ex (sz (FROMI x))) = x.natAbs := by
      rw [hman]; exact rne_exact _ _
    omega
  unfold TOI
  rw [if_neg (by rw [none_iff]; omega), hW]
  by_cases h : x < 0
  · rw [if_pos (a4.2 h)]; omega
  · rw [if_neg (fun g => h (a4.1 g))]; omega
theorem whole_less (x y : Int) (hx : -4001 < x ∧ x < 4001) (hy : -4001 < y ∧ y < 4001) : LESS (FROMI x) (FROMI y) = decide (x < y) := by
  obtain ⟨a1, a2, a3, a4, va, _⟩ := from_ok x (by omega) (by omega)
  obtain ⟨b1, b2, b3, b4, vb, _⟩ := from_ok y (by omega) (by omega)
  have hp : (0 : Int) < 2 ^ 149 := pos_pow 149
  have sx := sv_from x (by omega) (by omega)
  have sy := sv_from y (by omega) (by omega)
  have n1 : isNone (FROMI x) = false := isNone_f (by omega)
  have n2 : isNone (FROMI y) = false := isNone_f (by omega)
  unfold LESS
  rw [n1, n2]
  have key : plc (FROMI x) < plc (FROMI y) ↔ x < y := by
    constructor
    · intro h
      refine Int.lt_of_not_ge fun g => ?_
      have h1 := sv_le a1 a2 b1 b2 (Int.le_of_lt h)
      rw [sx, sy] at h1
      have h2 : x ≤ y := Int.le_of_mul_le_mul_right h1 hp
      have : x = y := by omega
      rw [this] at h; exact absurd h (Int.lt_irrefl _)
    · intro h
      refine Int.lt_of_not_ge fun g => ?_
      have h1 := sv_le b1 b2 a1 a2 g
      rw [sx, sy] at h1
      have h2 : y ≤ x := Int.le_of_mul_le_mul_right h1 hp
      omega
  by_cases h : x < y
  · rw [decide_eq_true h, decide_eq_true (key.2 h)]; rfl
  · rw [decide_eq_false h, decide_eq_false (fun g => h (key.1 g))]; rfl
theorem whole_root (x : Int) (hx : -4001 < x ∧ x < 4001) : SQRT (MUL (FROMI x) (FROMI x)) = FROMI (if x < 0 then -x else x) := by
  have hab : FROMI (if x < 0 then -x else x) = RI x.natAbs 0 := by
    unfold FROMI
    by_cases h : x < 0
    · rw [if_pos h, if_neg (by omega)]; congr 1; omega
    · rw [if_neg h, if_neg h]; congr 1; omega
  rw [hab, MUL_from x x (by omega) (by omega), if_pos Iff.rfl, Int.zero_add]
  have hN : x.natAbs ≤ 4000 := by omega
  have hNN : x.natAbs * x.natAbs < 16777216 := by have := Nat.mul_self_le_mul_self hN; omega
  obtain ⟨p, e, v, hp⟩ := whole_val (x.natAbs * x.natAbs) hNN
  rw [e]
  have hs : sz (p : Int) = p := by have := sz_eq (p : Int); omega
  by_cases hz : x.natAbs = 0
  · rw [hz] at e
    have hp0 : p = 0 := by
      have : RI ((0 * 0 : Nat) : Int) 0 = 0 := RI_zero 0
      omega
    subst hp0
    rw [hz]
    have : SQRT ((0 : Nat) : Int) = 0 := by decide
    rw [this]; exact (RI_zero 0).symm
  · have hpz : p ≠ 0 := by
      intro g; rw [g, val_zero] at v
      have := Nat.mul_pos (Nat.mul_pos (show 0 < x.natAbs by omega) (show 0 < x.natAbs by omega)) (pow_pos' 149)
      omega
    unfold SQRT
    rw [isNil_f (by omega), isNone_f (by omega), isInf_f (by omega), if_neg (by simp), if_neg (by simp; omega), if_neg (by simp)]
    exact SQ_whole _ _ hz (by rw [hs]; exact v)
theorem whole_zero (x : Int) (hx : -4001 < x ∧ x < 4001) : MUL (FROMI x) (FROMI 0) % 2147483648 = 0 := by
  rw [MUL_from x 0 (by omega) (by omega)]
  have : RI ((x.natAbs * (0 : Int).natAbs : Nat) : Int) 0 = 0 := by
    rw [show x.natAbs * (0 : Int).natAbs = 0 from Nat.mul_zero _]; exact RI_zero 0
  rw [this]; split <;> rfl
theorem whole_div (x y : Int) (hx : -4001 < x ∧ x < 4001) (hy : -4001 < y ∧ y < 4001) (hz : y ≠ 0) : DIV (MUL (FROMI x) (FROMI y)) (FROMI y) % 2147483648 = FROMI x % 2147483648 := by
  obtain ⟨a1, a2, a3, a4, va, ra⟩ := from_ok x (by omega) (by omega)
  obtain ⟨b1, b2, b3, b4, vb, _⟩ := from_ok y (by omega) (by omega)
  have hsx := sz_eq (FROMI x)
  have mb := man_ne (FROMI y) y.natAbs vb (by omega)
  have nb : isNil (FROMI y) = false := by
    refine isNil_f fun g => mb ?_
    unfold manI; rw [if_pos (by omega)]; exact g
  have hNN : x.natAbs * y.natAbs < 16777216 := by
    have := Nat.mul_le_mul (show x.natAbs ≤ 4000 by omega) (show y.natAbs ≤ 4000 by omega); omega
  obtain ⟨p, e, v, hp⟩ := whole_val (x.natAbs * y.natAbs) hNN
  have hM := MUL_from x y (by omega) (by omega)
  rw [e] at hM
  obtain ⟨s, hs, hs2⟩ : ∃ s : Int, (s = 0 ∨ s = 2147483648) ∧ MUL (FROMI x) (FROMI y) = s + p := ⟨_, by split <;> simp, hM⟩
  rw [hs2]
  have hsp : sz (s + p) = p := by have := sz_eq (s + p); omega
  have so := sgn2_or (s + p) (FROMI y)
  unfold DIV
  rw [isNone_f (by omega), isNone_f (by omega), isInf_f (by omega), isInf_f (by omega), nb, if_neg (by simp), if_neg (by simp), if_neg (by simp)]
  by_cases h0 : x = 0
  · have hp0 : p = 0 := by
      have : RI ((x.natAbs * y.natAbs : Nat) : Int) 0 = 0 := by rw [h0, show (0 : Int).natAbs * y.natAbs = 0 from Nat.zero_mul _]; exact RI_zero 0
      omega
    rw [if_pos (.inr (isNil_t (by omega))), h0]
    have : FROMI 0 = 0 := by unfold FROMI; rw [if_neg (by decide)]; exact RI_zero 0
    rw [this]; omega
  · have hpz : p ≠ 0 := by
      intro g; rw [g, val_zero] at v
      have := Nat.mul_pos (Nat.mul_pos (show 0 < x.natAbs by omega) (show 0 < y.natAbs by omega)) (pow_pos' 149)
      omega
    rw [if_neg (by rw [isNil_f (by omega)]; decide)]
    have hd := DQ_whole (s + p) (FROMI y) x.natAbs y.natAbs (by omega) (by omega) (by rw [hsp]; exact v) vb
    have hb := RI_bd x.natAbs 0
    rw [hd, ← ra]
    rw [← ra] at hb
    omega
end Go.Proofs.Ythfjiipopplokaa
