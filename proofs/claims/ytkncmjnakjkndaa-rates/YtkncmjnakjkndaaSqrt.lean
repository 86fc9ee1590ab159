/-
  What soft.Sqrt answers, for every pattern: P3 of the document. No condition.
-/
import Derived.Test.YtkncmjnakjkndaaRootN
namespace Go.Proofs.Ytkncmjnakjkndaa
open Go.RowKit
set_option linter.unusedVariables false
set_option linter.unusedSimpArgs false
/-- how far a number is shifted ahead of its root: its power must be even -/
def evI (a : Int) : Int := if (exI a - upI a) % 2 = 0 then upI a else upI a - 1
def sqM (a : Int) : Int := manI a * 2 ^ (evI a).toNat
def SQ (a : Int) : Int := RI (stick (rt (sqM a).toNat) (sqM a - rt (sqM a).toNat * rt (sqM a).toNat)) ((exI a - evI a) / 2)
/-- P3 -/
def SQRT (a : Int) : Int :=
  if isNil a = true then a else if isNone a = true ∨ 2147483648 ≤ a then 2143289344 else if isInf a = true then a else SQ a
theorem sqM_bd (a : Int) (h : manI a ≠ 0) : 4611686018427387904 ≤ sqM a ∧ sqM a < 18446744073709551616 := by
  have hu := upI_bd a
  have ht := topI_bd a h
  unfold sqM evI
  split
  · exact ⟨by unfold topI at ht; omega, by unfold topI at ht; omega⟩
  · unfold topI at ht
    have e : (upI a).toNat = (upI a - 1).toNat + 1 := by omega
    rw [e, show (2 : Int) ^ ((upI a - 1).toNat + 1) = 2 ^ (upI a - 1).toNat * 2 from rfl, ← Int.mul_assoc] at ht
    omega
theorem rt_bd (m : Int) (h0 : 0 ≤ m) (h : m < 18446744073709551616) : (rt m.toNat : Int) < 4294967296 ∧ (rt m.toNat : Int) * rt m.toNat ≤ m := by
  obtain ⟨a, b⟩ := rt_spec m.toNat (by omega)
  have : rt m.toNat < 4294967296 := by
    refine Nat.lt_of_not_le fun g => ?_
    have := Nat.mul_self_le_mul_self g; omega
  refine ⟨by omega, ?_⟩
  have : ((rt m.toNat * rt m.toNat : Nat) : Int) ≤ m := by omega
  exact_mod_cast this
set_option maxHeartbeats 1000000 in
theorem sqrt_fin (a : Int) (w : World) (h0 : 0 ≤ a) (h1 : a < 2147483648) (nn : isNone a = false) (ni : isInf a = false) (nl : isNil a = false) (ma : manI a ≠ 0) :
    Calls Try.prog 25 #[.int .u32 a] w fun e w' => e = .returned (.int .u32 (SQ a)) ∧ w' = w := by
  have h2 : a < 4294967296 := by omega
  have s1 := and_sign a h0 h2
  have e1 : a / 2147483648 * 2147483648 = 0 := by omega
  rw [e1] at s1
  clear e1
  have hbl := bl_man a
  have m1 := manI_bd a
  have x1 := exI_bd a
  have hM := sqM_bd a ma
  have hu : upI a = 64 - bl (manI a).toNat := rfl
  by_cases hev : (exI a - upI a) % 2 = 0
  · have he : evI a = 64 - bl (manI a).toNat := by unfold evI; rw [if_pos hev, hu]
    have t : ((exI a - (64 - (bl (manI a).toNat : Int))).tmod 2 != 0) = false := by
      rw [← hu, bne_eq_false_iff_eq]
      exact Int.tmod_eq_zero_of_dvd (Int.dvd_of_emod_eq_zero hev)
    have T : IntKind.u64.wrap (manI a * 2 ^ (64 - bl (manI a).toNat)) = sqM a := by
      have e : sqM a = manI a * 2 ^ (64 - bl (manI a).toNat) := by unfold sqM; rw [he, show (64 - (bl (manI a).toNat : Int)).toNat = 64 - bl (manI a).toNat from by omega]
      rw [← e]; exact u64_small (sqM a) (by omega) (by omega)
    have D : (exI a - (64 - (bl (manI a).toNat : Int))).tdiv 2 = (exI a - evI a) / 2 := by
      rw [he, ← hu]
      have := Int.tmod_add_mul_tdiv (exI a - upI a) 2
      have := Int.tmod_def (exI a - upI a) 2
      have b1 := Int.lt_tmod_of_pos (exI a - upI a) (show (0 : Int) < 2 by decide)
      have b2 := Int.tmod_lt_of_pos (exI a - upI a) (show (0 : Int) < 2 by decide)
      omega
    obtain ⟨E, hE⟩ : ∃ E, E = (exI a - evI a) / 2 := ⟨_, rfl⟩
    have eb : -300 ≤ E ∧ E ≤ 300 := by omega
    unfold SQ
    rw [← hE] at D ⊢
    clear hE hev hu he
    obtain ⟨M, hMM⟩ : ∃ M, M = sqM a := ⟨_, rfl⟩
    rw [← hMM] at hM T ⊢
    clear hMM
    obtain ⟨q1, q2⟩ := rt_bd M (by omega) hM.2
    obtain ⟨R, hR⟩ : ∃ R : Int, R = (rt M.toNat : Nat) := ⟨_, rfl⟩
    have r0 : 0 ≤ R := by omega
    rw [← hR] at q1 q2 ⊢
    replace hR := hR.symm
    obtain ⟨S, hS⟩ : ∃ S, S = R * R := ⟨_, rfl⟩
    have sn := Int.mul_nonneg r0 r0
    have TS := u64_small (R * R) sn (by omega)
    rw [← hS] at q2 sn ⊢
    replace TS := TS.trans hS.symm
    have O := or_bit R (M - S) r0 (by omega) (by omega)
    have sb := stick_bd R (M - S) r0 (by omega)
    have TD := u64_small (M - S) (by omega) (by omega)
    clear hS
    go_enter Try.func25, Try.ntmps25
    go_wp2_with (first | (go_at_call 67; refine (nil_any _ _ (by assumption) (by assumption)).mono ?_; rintro e w' ⟨rfl, rfl⟩) | (go_at_call 59; refine (none_any _ _ (by assumption) (by assumption)).mono ?_; rintro e w' ⟨rfl, rfl⟩) | (go_at_call 60; refine (inf_any _ _ (by assumption) (by assumption)).mono ?_; rintro e w' ⟨rfl, rfl⟩) | (go_at_call 68; refine (parts_any _ _ (by assumption) (by assumption)).mono ?_; rintro e w' ⟨rfl, rfl⟩) | (go_at_call 74; refine (lz64_any _ _ (by omega) (by omega)).mono ?_; rintro e w' ⟨rfl, rfl⟩) | (go_at_call 75; refine (root_any _ _ (by omega) (by omega)).mono ?_; rintro e w' ⟨rfl, rfl⟩) | (go_at_call 76; refine (sticky_any _ _ (by omega) (by omega)).mono ?_; rintro e w' ⟨rfl, rfl⟩) | (go_at_call 69; refine (rounded_any _ _ _ _ (by omega) (by omega) (by omega) (by omega) (by omega)).mono ?_; rintro e w' ⟨rfl, rfl⟩))
    go_ret
    refine ⟨congrArg Ending.returned (congrArg (Value.int IntKind.u32) ?_), rfl⟩
    rfl
  · have he : evI a = 64 - bl (manI a).toNat - 1 := by unfold evI; rw [if_neg hev, hu]
    have t : ((exI a - (64 - (bl (manI a).toNat : Int))).tmod 2 != 0) = true := by
      rw [← hu, bne_iff_ne]
      have := Int.tmod_add_mul_tdiv (exI a - upI a) 2
      omega
    have T : IntKind.u64.wrap (manI a * 2 ^ (64 - bl (manI a).toNat - 1)) = sqM a := by
      have e : sqM a = manI a * 2 ^ (64 - bl (manI a).toNat - 1) := by unfold sqM; rw [he, show (64 - (bl (manI a).toNat : Int) - 1).toNat = 64 - bl (manI a).toNat - 1 from by omega]
      rw [← e]; exact u64_small (sqM a) (by omega) (by omega)
    have D : (exI a - (64 - (bl (manI a).toNat : Int) - 1)).tdiv 2 = (exI a - evI a) / 2 := by
      rw [← he]
      have := Int.tmod_add_mul_tdiv (exI a - evI a) 2
      have b1 := Int.lt_tmod_of_pos (exI a - evI a) (show (0 : Int) < 2 by decide)
      have b2 := Int.tmod_lt_of_pos (exI a - evI a) (show (0 : Int) < 2 by decide)
      omega
    obtain ⟨E, hE⟩ : ∃ E, E = (exI a - evI a) / 2 := ⟨_, rfl⟩
    have eb : -300 ≤ E ∧ E ≤ 300 := by omega
    unfold SQ
    rw [← hE] at D ⊢
    clear hE hev hu he
    obtain ⟨M, hMM⟩ : ∃ M, M = sqM a := ⟨_, rfl⟩
    rw [← hMM] at hM T ⊢
    clear hMM
    obtain ⟨q1, q2⟩ := rt_bd M (by omega) hM.2
    obtain ⟨R, hR⟩ : ∃ R : Int, R = (rt M.toNat : Nat) := ⟨_, rfl⟩
    have r0 : 0 ≤ R := by omega
    rw [← hR] at q1 q2 ⊢
    replace hR := hR.symm
    obtain ⟨S, hS⟩ : ∃ S, S = R * R := ⟨_, rfl⟩
    have sn := Int.mul_nonneg r0 r0
    have TS := u64_small (R * R) sn (by omega)
    rw [← hS] at q2 sn ⊢
    replace TS := TS.trans hS.symm
    have O := or_bit R (M - S) r0 (by omega) (by omega)
    have sb := stick_bd R (M - S) r0 (by omega)
    have TD := u64_small (M - S) (by omega) (by omega)
    clear hS
    go_enter Try.func25, Try.ntmps25
    go_wp2_with (first | (go_at_call 67; refine (nil_any _ _ (by assumption) (by assumption)).mono ?_; rintro e w' ⟨rfl, rfl⟩) | (go_at_call 59; refine (none_any _ _ (by assumption) (by assumption)).mono ?_; rintro e w' ⟨rfl, rfl⟩) | (go_at_call 60; refine (inf_any _ _ (by assumption) (by assumption)).mono ?_; rintro e w' ⟨rfl, rfl⟩) | (go_at_call 68; refine (parts_any _ _ (by assumption) (by assumption)).mono ?_; rintro e w' ⟨rfl, rfl⟩) | (go_at_call 74; refine (lz64_any _ _ (by omega) (by omega)).mono ?_; rintro e w' ⟨rfl, rfl⟩) | (go_at_call 75; refine (root_any _ _ (by omega) (by omega)).mono ?_; rintro e w' ⟨rfl, rfl⟩) | (go_at_call 76; refine (sticky_any _ _ (by omega) (by omega)).mono ?_; rintro e w' ⟨rfl, rfl⟩) | (go_at_call 69; refine (rounded_any _ _ _ _ (by omega) (by omega) (by omega) (by omega) (by omega)).mono ?_; rintro e w' ⟨rfl, rfl⟩))
    go_ret
    refine ⟨congrArg Ending.returned (congrArg (Value.int IntKind.u32) ?_), rfl⟩
    rfl
set_option maxHeartbeats 1000000 in
theorem sqrt_any (a : Int) (w : World) (h0 : 0 ≤ a) (h1 : a < 4294967296) :
    Calls Try.prog 25 #[.int .u32 a] w fun e w' => e = .returned (.int .u32 (SQRT a)) ∧ w' = w := by
  unfold SQRT
  cases nl : isNil a
  · rw [if_neg (by simp)]
    cases nn : isNone a
    · have s1 := and_sign a h0 h1
      by_cases h : 2147483648 ≤ a
      · rw [if_pos (.inr h)]
        have e1 : a / 2147483648 * 2147483648 = 2147483648 := by omega
        rw [e1] at s1
        clear e1
        go_enter Try.func25, Try.ntmps25
        go_wp2_with (first | (go_at_call 67; refine (nil_any _ _ (by assumption) (by assumption)).mono ?_; rintro e w' ⟨rfl, rfl⟩) | (go_at_call 59; refine (none_any _ _ (by assumption) (by assumption)).mono ?_; rintro e w' ⟨rfl, rfl⟩) | (go_at_call 60; refine (inf_any _ _ (by assumption) (by assumption)).mono ?_; rintro e w' ⟨rfl, rfl⟩))
        go_ret
        exact ⟨rfl, rfl⟩
      · rw [if_neg (by simp; omega)]
        have e1 : a / 2147483648 * 2147483648 = 0 := by omega
        rw [e1] at s1
        clear e1
        cases ni : isInf a
        · rw [if_neg (by simp)]
          exact sqrt_fin a w h0 (by omega) nn ni nl (man_of_nil nl nn)
        · rw [if_pos rfl]
          go_enter Try.func25, Try.ntmps25
          go_wp2_with (first | (go_at_call 67; refine (nil_any _ _ (by assumption) (by assumption)).mono ?_; rintro e w' ⟨rfl, rfl⟩) | (go_at_call 59; refine (none_any _ _ (by assumption) (by assumption)).mono ?_; rintro e w' ⟨rfl, rfl⟩) | (go_at_call 60; refine (inf_any _ _ (by assumption) (by assumption)).mono ?_; rintro e w' ⟨rfl, rfl⟩))
          go_ret
          exact ⟨rfl, rfl⟩
    · rw [if_pos (.inl rfl)]
      go_enter Try.func25, Try.ntmps25
      go_wp2_with (first | (go_at_call 67; refine (nil_any _ _ (by assumption) (by assumption)).mono ?_; rintro e w' ⟨rfl, rfl⟩) | (go_at_call 59; refine (none_any _ _ (by assumption) (by assumption)).mono ?_; rintro e w' ⟨rfl, rfl⟩) | (go_at_call 60; refine (inf_any _ _ (by assumption) (by assumption)).mono ?_; rintro e w' ⟨rfl, rfl⟩))
      go_ret
      exact ⟨rfl, rfl⟩
  · rw [if_pos rfl]
    go_enter Try.func25, Try.ntmps25
    go_wp2_with (first | (go_at_call 67; refine (nil_any _ _ (by assumption) (by assumption)).mono ?_; rintro e w' ⟨rfl, rfl⟩) | (go_at_call 59; refine (none_any _ _ (by assumption) (by assumption)).mono ?_; rintro e w' ⟨rfl, rfl⟩) | (go_at_call 60; refine (inf_any _ _ (by assumption) (by assumption)).mono ?_; rintro e w' ⟨rfl, rfl⟩))
    go_ret
    exact ⟨rfl, rfl⟩
end Go.Proofs.Ytkncmjnakjkndaa
