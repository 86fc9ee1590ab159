/-
  What soft.Add and soft.Sub answer, for every two patterns: P2 of the document. No condition.
-/
import Derived.Test.YtnkgfoabadjboaaRounded
namespace Go.Proofs.Ytnkgfoabadjboaa
open Go.RowKit
theorem shl_gap (m : Int) (g : Int) (h0 : 0 ≤ m) (h1 : m < 16777216) (g0 : 0 ≤ g) (g1 : g ≤ 32) : IntKind.u64.wrap (m * 2 ^ g.toNat) = m * 2 ^ g.toNat ∧ 0 ≤ m * 2 ^ g.toNat ∧ m * 2 ^ g.toNat < 72057594037927936 := by
  have h : (2 : Int) ^ g.toNat ≤ 4294967296 := by
    rw [pow_cast]
    have := Nat.pow_le_pow_right (n := 2) (by decide) (show g.toNat ≤ 32 by omega)
    omega
  have hp : (0 : Int) < 2 ^ g.toNat := by rw [pow_cast]; have := pow_pos' g.toNat; omega
  have a : 0 ≤ m * 2 ^ g.toNat := Int.mul_nonneg h0 (by omega)
  have b : m * 2 ^ g.toNat ≤ 16777215 * 4294967296 := Int.mul_le_mul (by omega) h (by omega) (by omega)
  exact ⟨u64_small _ a (by omega), a, by omega⟩
set_option maxHeartbeats 1000000 in
theorem sum_ge (a b : Int) (w : World) (h0 : 0 ≤ a) (h1 : a < 4294967296) (g0 : 0 ≤ b) (g1 : b < 4294967296) (ha : a % 2147483648 < 2139095040) (hb : b % 2147483648 < 2139095040)
    (hs : ¬ a % 2147483648 < b % 2147483648) :
    Calls Try.prog 62 #[.int .u32 a, .int .u32 b] w fun e w' => e = .returned (.int .u32 (ADDf a b)) ∧ w' = w := by
  have xa := exI_bd a
  have xb := exI_bd b
  have ma := manI_bd a
  have mb := manI_bd b
  have hle : exI b ≤ exI a := by unfold exI; split <;> split <;> omega
  have s1 := and_sign a h0 h1
  have s2 := and_sign b g0 g1
  by_cases hg : 32 < exI a - exI b
  · rw [ADDf_far a b h0 h1 g0 g1 (by unfold sz; omega) (by omega) (by unfold sz; omega)]
    go_enter Try.func62, Try.ntmps62
    go_wp2_with (first | (go_at_call 116; refine (size_any _ _ (by assumption) (by assumption)).mono ?_; rintro e w' ⟨rfl, rfl⟩) | (go_at_call 68; refine (parts_any _ _ (by assumption) (by assumption)).mono ?_; rintro e w' ⟨rfl, rfl⟩))
    go_ret
    exact ⟨rfl, rfl⟩
  · obtain ⟨r1, r2, r3, r4⟩ := RI_sum a b hle
    obtain ⟨t1, t2, t3⟩ := shl_gap (manI a) (exI a - exI b) ma.1 ma.2 (by omega) (by omega)
    obtain ⟨M, hM⟩ : ∃ M, M = manI a * 2 ^ (exI a - exI b).toNat := ⟨_, rfl⟩
    replace t1 := t1.trans hM.symm
    rw [← hM] at r1 r2 r3 r4 t2 t3
    clear hM
    have hvv : val (sz b) ≤ val (sz a) := val_le (by unfold sz; omega)
    replace r4 := r4 (by unfold sz; omega)
    by_cases hd : a / 2147483648 = b / 2147483648
    · rw [← ADDf_same a b hd h0 h1, ← r1]
      have hd' : (a / 2147483648 * 2147483648 == b / 2147483648 * 2147483648) = true := by rw [hd]; simp
      clear r1 r2 r3 r4 hvv hd
      go_enter Try.func62, Try.ntmps62
      go_wp2_with (first | (go_at_call 116; refine (size_any _ _ (by assumption) (by assumption)).mono ?_; rintro e w' ⟨rfl, rfl⟩) | (go_at_call 68; refine (parts_any _ _ (by assumption) (by assumption)).mono ?_; rintro e w' ⟨rfl, rfl⟩) | (go_at_call 69; refine (rounded_any _ _ _ _ (by omega) (by omega) (by omega) (by omega) (by omega)).mono ?_; rintro e w' ⟨rfl, rfl⟩))
      go_ret
      refine ⟨congrArg Ending.returned (congrArg (Value.int IntKind.u32) ?_), rfl⟩
      rfl
    · have hd' : (a / 2147483648 * 2147483648 == b / 2147483648 * 2147483648) = false := by
        simp only [beq_eq_false_iff_ne, ne_eq]; omega
      by_cases hv : val (sz a) = val (sz b)
      · rw [ADDf_null a b hd hv.symm h0 h1 g0 g1]
        have e := r3.2 hv
        have e' : (M == manI b) = true := by rw [e]; simp
        clear r1 r2 r3 r4 hvv hd hv e
        go_enter Try.func62, Try.ntmps62
        go_wp2_with (first | (go_at_call 116; refine (size_any _ _ (by assumption) (by assumption)).mono ?_; rintro e w' ⟨rfl, rfl⟩) | (go_at_call 68; refine (parts_any _ _ (by assumption) (by assumption)).mono ?_; rintro e w' ⟨rfl, rfl⟩))
        go_ret
        exact ⟨rfl, rfl⟩
      · rw [← ADDf_diff a b hd h0 h1 g0 g1 (by omega), ← r2 r4]
        have e' : (M == manI b) = false := by
          simp only [beq_eq_false_iff_ne, ne_eq]; exact fun h => hv (r3.1 h)
        clear r1 r2 r3 hvv hd hv
        go_enter Try.func62, Try.ntmps62
        go_wp2_with (first | (go_at_call 116; refine (size_any _ _ (by assumption) (by assumption)).mono ?_; rintro e w' ⟨rfl, rfl⟩) | (go_at_call 68; refine (parts_any _ _ (by assumption) (by assumption)).mono ?_; rintro e w' ⟨rfl, rfl⟩) | (go_at_call 69; refine (rounded_any _ _ _ _ (by omega) (by omega) (by omega) (by omega) (by omega)).mono ?_; rintro e w' ⟨rfl, rfl⟩))
        go_ret
        exact ⟨rfl, rfl⟩
set_option maxHeartbeats 1000000 in
theorem sum_lt (a b : Int) (w : World) (h0 : 0 ≤ a) (h1 : a < 4294967296) (g0 : 0 ≤ b) (g1 : b < 4294967296) (ha : a % 2147483648 < 2139095040) (hb : b % 2147483648 < 2139095040)
    (hs : b % 2147483648 < a % 2147483648) :
    Calls Try.prog 62 #[.int .u32 b, .int .u32 a] w fun e w' => e = .returned (.int .u32 (ADDf a b)) ∧ w' = w := by
  have xa := exI_bd a
  have xb := exI_bd b
  have ma := manI_bd a
  have mb := manI_bd b
  have hle : exI b ≤ exI a := by unfold exI; split <;> split <;> omega
  have s1 := and_sign a h0 h1
  have s2 := and_sign b g0 g1
  by_cases hg : 32 < exI a - exI b
  · rw [ADDf_far a b h0 h1 g0 g1 (by unfold sz; omega) (by omega) (by unfold sz; omega)]
    go_enter Try.func62, Try.ntmps62
    go_wp2_with (first | (go_at_call 116; refine (size_any _ _ (by assumption) (by assumption)).mono ?_; rintro e w' ⟨rfl, rfl⟩) | (go_at_call 68; refine (parts_any _ _ (by assumption) (by assumption)).mono ?_; rintro e w' ⟨rfl, rfl⟩))
    go_ret
    exact ⟨rfl, rfl⟩
  · obtain ⟨r1, r2, r3, r4⟩ := RI_sum a b hle
    obtain ⟨t1, t2, t3⟩ := shl_gap (manI a) (exI a - exI b) ma.1 ma.2 (by omega) (by omega)
    obtain ⟨M, hM⟩ : ∃ M, M = manI a * 2 ^ (exI a - exI b).toNat := ⟨_, rfl⟩
    replace t1 := t1.trans hM.symm
    rw [← hM] at r1 r2 r3 r4 t2 t3
    clear hM
    have hvv : val (sz b) ≤ val (sz a) := val_le (by unfold sz; omega)
    replace r4 := r4 (by unfold sz; omega)
    by_cases hd : a / 2147483648 = b / 2147483648
    · rw [← ADDf_same a b hd h0 h1, ← r1]
      have hd' : (a / 2147483648 * 2147483648 == b / 2147483648 * 2147483648) = true := by rw [hd]; simp
      clear r1 r2 r3 r4 hvv hd
      go_enter Try.func62, Try.ntmps62
      go_wp2_with (first | (go_at_call 116; refine (size_any _ _ (by assumption) (by assumption)).mono ?_; rintro e w' ⟨rfl, rfl⟩) | (go_at_call 68; refine (parts_any _ _ (by assumption) (by assumption)).mono ?_; rintro e w' ⟨rfl, rfl⟩) | (go_at_call 69; refine (rounded_any _ _ _ _ (by omega) (by omega) (by omega) (by omega) (by omega)).mono ?_; rintro e w' ⟨rfl, rfl⟩))
      go_ret
      exact ⟨rfl, rfl⟩
    · have hd' : (a / 2147483648 * 2147483648 == b / 2147483648 * 2147483648) = false := by
        simp only [beq_eq_false_iff_ne, ne_eq]; omega
      by_cases hv : val (sz a) = val (sz b)
      · rw [ADDf_null a b hd hv.symm h0 h1 g0 g1]
        have e := r3.2 hv
        have e' : (M == manI b) = true := by rw [e]; simp
        clear r1 r2 r3 r4 hvv hd hv e
        go_enter Try.func62, Try.ntmps62
        go_wp2_with (first | (go_at_call 116; refine (size_any _ _ (by assumption) (by assumption)).mono ?_; rintro e w' ⟨rfl, rfl⟩) | (go_at_call 68; refine (parts_any _ _ (by assumption) (by assumption)).mono ?_; rintro e w' ⟨rfl, rfl⟩))
        go_ret
        exact ⟨rfl, rfl⟩
      · rw [← ADDf_diff a b hd h0 h1 g0 g1 (by omega), ← r2 r4]
        have e' : (M == manI b) = false := by
          simp only [beq_eq_false_iff_ne, ne_eq]; exact fun h => hv (r3.1 h)
        clear r1 r2 r3 hvv hd hv
        go_enter Try.func62, Try.ntmps62
        go_wp2_with (first | (go_at_call 116; refine (size_any _ _ (by assumption) (by assumption)).mono ?_; rintro e w' ⟨rfl, rfl⟩) | (go_at_call 68; refine (parts_any _ _ (by assumption) (by assumption)).mono ?_; rintro e w' ⟨rfl, rfl⟩) | (go_at_call 69; refine (rounded_any _ _ _ _ (by omega) (by omega) (by omega) (by omega) (by omega)).mono ?_; rintro e w' ⟨rfl, rfl⟩))
        go_ret
        exact ⟨rfl, rfl⟩
theorem sum_any (a b : Int) (w : World) (h0 : 0 ≤ a) (h1 : a < 4294967296) (g0 : 0 ≤ b) (g1 : b < 4294967296) (ha : a % 2147483648 < 2139095040) (hb : b % 2147483648 < 2139095040) :
    Calls Try.prog 62 #[.int .u32 a, .int .u32 b] w fun e w' => e = .returned (.int .u32 (ADDf a b)) ∧ w' = w := by
  by_cases hs : a % 2147483648 < b % 2147483648
  · rw [ADDf_comm]; exact sum_lt b a w g0 g1 h0 h1 hb ha hs
  · exact sum_ge a b w h0 h1 g0 g1 ha hb hs
theorem ADDf_bd (a b : Int) : 0 ≤ ADDf a b ∧ ADDf a b < 4294967296 := by
  unfold ADDf
  split
  · have := RZ_bd (-(sv a + sv b)).toNat; omega
  · split
    · omega
    · have := RZ_bd (sv a + sv b).toNat; omega
/-- P2 -/
def ADD (a b : Int) : Int :=
  if isNone a = true ∨ isNone b = true then 2143289344
  else if isInf a = true then (if b = (a + 2147483648) % 4294967296 then 2143289344 else a)
  else if isInf b = true then b else ADDf a b
set_option maxHeartbeats 1000000 in
theorem add_any (a b : Int) (w : World) (h0 : 0 ≤ a) (h1 : a < 4294967296) (g0 : 0 ≤ b) (g1 : b < 4294967296) :
    Calls Try.prog 16 #[.int .u32 a, .int .u32 b] w fun e w' => e = .returned (.int .u32 (ADD a b)) ∧ w' = w := by
  unfold ADD
  by_cases na : 2139095040 < a % 2147483648
  · have n1 := isNone_t na
    rw [if_pos (.inl n1)]
    go_enter Try.func16, Try.ntmps16
    go_wp2_with (first | (go_at_call 59; refine (none_any _ _ (by assumption) (by assumption)).mono ?_; rintro e w' ⟨rfl, rfl⟩) | (go_at_call 60; refine (inf_any _ _ (by assumption) (by assumption)).mono ?_; rintro e w' ⟨rfl, rfl⟩) | (go_at_call 61; refine (turned_any _ _ (by assumption) (by assumption)).mono ?_; rintro e w' ⟨rfl, rfl⟩) | (go_at_call 62; refine (sum_any _ _ _ (by assumption) (by assumption) (by assumption) (by assumption) (by omega) (by omega)).mono ?_; rintro e w' ⟨rfl, rfl⟩))
    go_ret
    exact ⟨rfl, rfl⟩
  · have n1 := isNone_f na
    by_cases nb : 2139095040 < b % 2147483648
    · have n2 := isNone_t nb
      rw [if_pos (.inr n2)]
      go_enter Try.func16, Try.ntmps16
      go_wp2_with (first | (go_at_call 59; refine (none_any _ _ (by assumption) (by assumption)).mono ?_; rintro e w' ⟨rfl, rfl⟩) | (go_at_call 60; refine (inf_any _ _ (by assumption) (by assumption)).mono ?_; rintro e w' ⟨rfl, rfl⟩) | (go_at_call 61; refine (turned_any _ _ (by assumption) (by assumption)).mono ?_; rintro e w' ⟨rfl, rfl⟩) | (go_at_call 62; refine (sum_any _ _ _ (by assumption) (by assumption) (by assumption) (by assumption) (by omega) (by omega)).mono ?_; rintro e w' ⟨rfl, rfl⟩))
      go_ret
      exact ⟨rfl, rfl⟩
    · have n2 := isNone_f nb
      rw [if_neg (by simp [n1, n2])]
      by_cases ia : a % 2147483648 = 2139095040
      · have i1 := isInf_t ia
        rw [if_pos i1]
        clear ia
        by_cases hb : b = (a + 2147483648) % 4294967296
        · have hb' : (b == (a + 2147483648) % 4294967296) = true := by simpa using hb
          rw [if_pos hb]
          clear hb
          go_enter Try.func16, Try.ntmps16
          go_wp2_with (first | (go_at_call 59; refine (none_any _ _ (by assumption) (by assumption)).mono ?_; rintro e w' ⟨rfl, rfl⟩) | (go_at_call 60; refine (inf_any _ _ (by assumption) (by assumption)).mono ?_; rintro e w' ⟨rfl, rfl⟩) | (go_at_call 61; refine (turned_any _ _ (by assumption) (by assumption)).mono ?_; rintro e w' ⟨rfl, rfl⟩) | (go_at_call 62; refine (sum_any _ _ _ (by assumption) (by assumption) (by assumption) (by assumption) (by omega) (by omega)).mono ?_; rintro e w' ⟨rfl, rfl⟩))
          go_ret
          exact ⟨rfl, rfl⟩
        · have hb' : (b == (a + 2147483648) % 4294967296) = false := by simpa using hb
          rw [if_neg hb]
          clear hb
          go_enter Try.func16, Try.ntmps16
          go_wp2_with (first | (go_at_call 59; refine (none_any _ _ (by assumption) (by assumption)).mono ?_; rintro e w' ⟨rfl, rfl⟩) | (go_at_call 60; refine (inf_any _ _ (by assumption) (by assumption)).mono ?_; rintro e w' ⟨rfl, rfl⟩) | (go_at_call 61; refine (turned_any _ _ (by assumption) (by assumption)).mono ?_; rintro e w' ⟨rfl, rfl⟩) | (go_at_call 62; refine (sum_any _ _ _ (by assumption) (by assumption) (by assumption) (by assumption) (by omega) (by omega)).mono ?_; rintro e w' ⟨rfl, rfl⟩))
          go_ret
          exact ⟨rfl, rfl⟩
      · have i1 := isInf_f ia
        rw [if_neg (by simp [i1])]
        by_cases ib : b % 2147483648 = 2139095040
        · have i2 := isInf_t ib
          rw [if_pos i2]
          clear ib
          go_enter Try.func16, Try.ntmps16
          go_wp2_with (first | (go_at_call 59; refine (none_any _ _ (by assumption) (by assumption)).mono ?_; rintro e w' ⟨rfl, rfl⟩) | (go_at_call 60; refine (inf_any _ _ (by assumption) (by assumption)).mono ?_; rintro e w' ⟨rfl, rfl⟩) | (go_at_call 61; refine (turned_any _ _ (by assumption) (by assumption)).mono ?_; rintro e w' ⟨rfl, rfl⟩) | (go_at_call 62; refine (sum_any _ _ _ (by assumption) (by assumption) (by assumption) (by assumption) (by omega) (by omega)).mono ?_; rintro e w' ⟨rfl, rfl⟩))
          go_ret
          exact ⟨rfl, rfl⟩
        · have i2 := isInf_f ib
          rw [if_neg (by simp [i2])]
          have ja : a % 2147483648 < 2139095040 := by omega
          have jb : b % 2147483648 < 2139095040 := by omega
          clear na nb ia ib
          go_enter Try.func16, Try.ntmps16
          go_wp2_with (first | (go_at_call 59; refine (none_any _ _ (by assumption) (by assumption)).mono ?_; rintro e w' ⟨rfl, rfl⟩) | (go_at_call 60; refine (inf_any _ _ (by assumption) (by assumption)).mono ?_; rintro e w' ⟨rfl, rfl⟩) | (go_at_call 61; refine (turned_any _ _ (by assumption) (by assumption)).mono ?_; rintro e w' ⟨rfl, rfl⟩) | (go_at_call 62; refine (sum_any _ _ _ (by assumption) (by assumption) (by assumption) (by assumption) (by omega) (by omega)).mono ?_; rintro e w' ⟨rfl, rfl⟩))
          go_ret
          exact ⟨rfl, rfl⟩
theorem ADD_bd (a b : Int) (h0 : 0 ≤ a) (h1 : a < 4294967296) (g0 : 0 ≤ b) (g1 : b < 4294967296) : 0 ≤ ADD a b ∧ ADD a b < 4294967296 := by
  have := ADDf_bd a b
  unfold ADD
  split
  · omega
  · split
    · split <;> omega
    · split <;> omega
/-- P2 -/
def SUB (a b : Int) : Int := ADD a ((b + 2147483648) % 4294967296)
set_option maxHeartbeats 1000000 in
theorem sub_any (a b : Int) (w : World) (h0 : 0 ≤ a) (h1 : a < 4294967296) (g0 : 0 ≤ b) (g1 : b < 4294967296) :
    Calls Try.prog 17 #[.int .u32 a, .int .u32 b] w fun e w' => e = .returned (.int .u32 (SUB a b)) ∧ w' = w := by
  unfold SUB
  go_enter Try.func17, Try.ntmps17
  go_wp2_with (first | (go_at_call 61; refine (turned_any _ _ (by assumption) (by assumption)).mono ?_; rintro e w' ⟨rfl, rfl⟩) | (go_at_call 16; refine (add_any _ _ _ (by omega) (by omega) (by omega) (by omega)).mono ?_; rintro e w' ⟨rfl, rfl⟩))
  go_ret
  exact ⟨rfl, rfl⟩
end Go.Proofs.Ytnkgfoabadjboaa
