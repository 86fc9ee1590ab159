/-
  What tutorref.root, nearest, place and FromInt answer. Conditions: as each theorem names them.
-/
import Derived.Test.YtkncmjnakjkndaaRefSum
import Derived.Test.YtkncmjnakjkndaaInts
import Derived.Test.YtkncmjnakjkndaaRootN
namespace Go.Proofs.Ytkncmjnakjkndaa
open Go.RowKit
set_option linter.unusedVariables false
set_option linter.unusedSimpArgs false
set_option maxHeartbeats 1000000 in
theorem rroot_any (m : Int) (w : World) (h0 : 0 ≤ m) (h1 : m < 4611686018427387904) :
    Calls Try.prog 79 #[.int .i64 m] w fun e w' => e = .returned (.int .i64 (rt m.toNat)) ∧ w' = w := by
  go_enter Try.func79, Try.ntmps79
  go_wp2
  go_loop [3, 4] (fun lv hv => ∃ l h : Int, lv = .int .i64 l ∧ hv = .int .i64 h ∧ 0 ≤ l ∧ l < h ∧ h ≤ 2147483648 ∧ Hid (l * l ≤ m ∧ m < h * h)) (fun lv hv => (intOf hv - intOf lv).toNat)
  case atStart => exact ⟨0, 2147483648, rfl, rfl, by omega, by omega, by omega, ⟨by omega, by show m < 2147483648 * 2147483648; omega⟩⟩
  case round =>
    obtain ⟨l, h, rfl, rfl, l0, lh, h2, hm⟩ := hrel
    by_cases hc : 1 < h - l
    · obtain ⟨c, hcc⟩ : ∃ c, c = (l + h) / 2 := ⟨_, rfl⟩
      have c1 : l < c := by omega
      have c2 : c < h := by omega
      have P := Int.mul_nonneg (show 0 ≤ c by omega) (show 0 ≤ c by omega)
      have P2 := Int.mul_le_mul (show c ≤ 2147483647 by omega) (show c ≤ 2147483647 by omega) (by omega) (by omega)
      obtain ⟨S, hS⟩ : ∃ S, S = c * c := ⟨_, rfl⟩
      have T' := w64 S (by omega)
      have HS : Hid _ := hS
      have hc2 : (l + h) / 2 = c := hcc.symm
      have hSS : c * c = S := hS.symm
      clear hS hcc P P2
      by_cases ht : S ≤ m
      · go_wp2
        go_round
        case rel => exact ⟨c, h, int_eq hc2, rfl, by omega, by omega, by omega, ⟨by rw [← HS.out]; exact ht, hm.out.2⟩⟩
        case measure => simp [intOf]; omega
      · go_wp2
        go_round
        case rel => exact ⟨l, c, rfl, int_eq hc2, by omega, by omega, by omega, ⟨hm.out.1, by rw [← HS.out]; omega⟩⟩
        case measure => simp [intOf]; omega
    · have e1 : h = l + 1 := by omega
      subst e1
      have R : Hid _ := rt_int m l h0 (by omega) l0 hm.out.1 hm.out.2
      clear hm
      go_wp2
      go_ret
      refine ⟨congrArg Ending.returned (congrArg (Value.int IntKind.i64) ?_), rfl⟩
      exact R.out
set_option maxHeartbeats 1000000 in
theorem nearest_up (m e : Int) (w : World) (h0 : 0 ≤ m) (h1 : m < 16777216) (e0 : 0 ≤ e) (e1 : e ≤ 8) :
    Calls Try.prog 81 #[.int .i64 m, .int .i64 e] w fun r w' => r = .returned (.int .i64 (m * 2 ^ e.toNat)) ∧ w' = w := by
  go_enter Try.func81, Try.ntmps81
  go_wp2_with (first | (go_at_call 73; refine (rshifted_any _ _ _ (by omega) (by omega) (by omega) (by omega)).mono ?_; rintro e w' ⟨rfl, rfl⟩))
  go_ret
  exact ⟨rfl, rfl⟩
set_option maxHeartbeats 2000000 in
theorem nearest_down (m e : Int) (w : World) (h0 : 0 ≤ m) (h1 : m < 16777216) (e0 : e < 0) (e1 : -149 ≤ e) :
    Calls Try.prog 81 #[.int .i64 m, .int .i64 e] w fun r w' => r = .returned (.int .i64 (rne m.toNat (-e).toNat)) ∧ w' = w := by
  go_enter Try.func81, Try.ntmps81
  go_wp2
  go_loop [0, 1, 5, 6] (fun mv ev iv lv => ∃ (k : Nat) (f : Int), mv = .int .i64 (m.toNat / 2 ^ k : Nat) ∧ ev = .int .i64 f ∧ iv = .bool (midB m.toNat k) ∧ lv = .bool (lessB m.toNat k) ∧ f ≤ 0 ∧ -149 ≤ f ∧ Hid (f = e + k)) (fun _ ev _ _ => (0 - intOf ev).toNat)
  case atStart => exact ⟨0, e, by simp; omega, rfl, rfl, by simp [lessB, Nat.mod_one], by omega, by omega, by show e = e + 0; omega⟩
  case round =>
    obtain ⟨k, f, rfl, rfl, rfl, rfl, f0, f1, hf⟩ := hrel
    have N1 : Hid _ := mid_next m.toNat k
    have N2 : Hid _ := div_next m.toNat k
    have N3 : Hid _ := lessB_succ m.toNat k
    have N5 : Hid _ := rne_bits m.toNat k
    have Mb : m.toNat / 2 ^ k < 16777216 := Nat.lt_of_le_of_lt (Nat.div_le_self _ _) (by omega)
    obtain ⟨M, hM⟩ : ∃ M, M = m.toNat / 2 ^ k := ⟨_, rfl⟩
    obtain ⟨I, hI⟩ : ∃ I, I = midB m.toNat k := ⟨_, rfl⟩
    obtain ⟨L, hL⟩ : ∃ L, L = lessB m.toNat k := ⟨_, rfl⟩
    rw [← hM] at N1 N2 N5 Mb ⊢
    rw [← hI] at N3 N5 ⊢
    rw [← hL] at N3 N5 ⊢
    clear hM hI hL
    obtain ⟨Mi, hMi⟩ : ∃ Mi : Int, Mi = M := ⟨_, rfl⟩
    have m0 : 0 ≤ Mi := by omega
    have m9 : Mi < 16777216 := by omega
    by_cases hc : f < 0
    · rw [← hMi] at N1 N2 ⊢
      clear hMi Mb N5
      cases L <;> cases I
      all_goals
        go_wp2
        go_round
        case rel => exact ⟨k + 1, f + 1, int_eq N2.out, rfl, congrArg _ N1.out, congrArg _ N3.out.symm, by omega, by omega, by have := hf.out; show f + 1 = e + ((k + 1 : Nat) : Int); omega⟩
        case measure => simp [intOf]; omega
    · have hk : (-e).toNat = k := by have := hf.out; omega
      clear N1 N2 N3
      replace N5 : rne m.toNat k = _ := N5.out
      rw [← hk] at N5
      clear hk
      cases I
      · have R : Hid ((rne m.toNat (-e).toNat : Int) = Mi) := by show _ = _; rw [N5, hMi]; simp
        rw [← hMi]
        clear N5 hMi Mb
        go_wp2
        go_ret
        refine ⟨congrArg Ending.returned (congrArg (Value.int IntKind.i64) ?_), rfl⟩
        rw [R.out]
      · by_cases hu : L = true ∨ M % 2 = 1
        · rw [if_pos ⟨rfl, hu⟩] at N5
          have R : Hid ((rne m.toNat (-e).toNat : Int) = Mi + 1) := by show _ = _; rw [N5, hMi]; omega
          replace hu : L = true ∨ Mi % 2 = 1 := hu.imp_right fun h => by omega
          rw [← hMi]
          clear N5 hMi Mb
          cases L
          · have o1 : (Mi % 2 == 1) = true := by simp only [beq_iff_eq]; simpa using hu
            clear hu
            go_wp2
            go_ret
            refine ⟨congrArg Ending.returned (congrArg (Value.int IntKind.i64) ?_), rfl⟩
            rw [R.out]
          · go_wp2
            go_ret
            refine ⟨congrArg Ending.returned (congrArg (Value.int IntKind.i64) ?_), rfl⟩
            rw [R.out]
        · rw [if_neg (fun h => hu h.2)] at N5
          have R : Hid ((rne m.toNat (-e).toNat : Int) = Mi) := by show _ = _; rw [N5, hMi]; simp
          have l1 : L = false := by
            cases L
            · rfl
            · exact absurd (.inl rfl) hu
          subst l1
          have o1 : (Mi % 2 == 1) = false := by simp only [beq_eq_false_iff_ne, ne_eq]; omega
          rw [← hMi]
          clear N5 hMi Mb hu
          go_wp2
          go_ret
          refine ⟨congrArg Ending.returned (congrArg (Value.int IntKind.i64) ?_), rfl⟩
          rw [R.out]
set_option maxHeartbeats 400000 in
theorem rplace_any (a : Int) (w : World) (h0 : 0 ≤ a) (h1 : a < 4294967296) :
    Calls Try.prog 80 #[.int .i64 a] w fun e w' => e = .returned (.int .i64 (plc a)) ∧ w' = w := by
  unfold plc
  by_cases h : 2147483648 ≤ a
  · rw [if_pos h]
    go_enter Try.func80, Try.ntmps80
    go_wp2
    go_ret
    exact ⟨ret_int (by omega), rfl⟩
  · rw [if_neg h]
    go_enter Try.func80, Try.ntmps80
    go_wp2
    go_ret
    exact ⟨rfl, rfl⟩
set_option maxHeartbeats 400000 in
theorem rfromInt_any (n : Int) (w : World) (h0 : -9223372036854775808 ≤ n) (h1 : n ≤ 9223372036854775807) :
    Calls Try.prog 32 #[.int .i64 n] w fun e w' => e = .returned (.int .i64 (FROMI n)) ∧ w' = w := by
  unfold FROMI
  by_cases h : n < 0
  · rw [if_pos h]
    by_cases hm : n = -9223372036854775808
    · subst hm
      have e : Hid (RI 4611686018427387904 1 = RI 9223372036854775808 0) := (RI_same 4611686018427387904 1 9223372036854775808 0 (by omega) 1 (by omega) (by omega) (by omega)).symm
      go_enter Try.func32, Try.ntmps32
      go_wp2_with (first | (go_at_call 65; refine (round_any _ _ _ _ (by omega) (by omega) (by omega) (by omega)).mono ?_; rintro e w' ⟨rfl, rfl⟩))
      go_ret
      refine ⟨congrArg Ending.returned (congrArg (Value.int IntKind.i64) ?_), rfl⟩
      rw [show (- -9223372036854775808 : Int) = 9223372036854775808 from rfl, ← e.out, Int.add_comm]; rfl
    · have hm' : (n == -9223372036854775808) = false := by simpa using hm
      go_enter Try.func32, Try.ntmps32
      go_wp2_with (first | (go_at_call 65; refine (round_any _ _ _ _ (by omega) (by omega) (by omega) (by omega)).mono ?_; rintro e w' ⟨rfl, rfl⟩))
      go_ret
      refine ⟨congrArg Ending.returned (congrArg (Value.int IntKind.i64) ?_), rfl⟩
      rw [Int.add_comm]; rfl
  · rw [if_neg h]
    go_enter Try.func32, Try.ntmps32
    go_wp2_with (first | (go_at_call 65; refine (round_any _ _ _ _ (by omega) (by omega) (by omega) (by omega)).mono ?_; rintro e w' ⟨rfl, rfl⟩))
    go_ret
    refine ⟨congrArg Ending.returned (congrArg (Value.int IntKind.i64) ?_), rfl⟩
    simp [sg]
theorem wh_near (a : Int) (h : exI a < 0) : WH (manI a) (exI a) = (rne (manI a).toNat (-exI a).toNat : Nat) := by unfold WH; rw [if_pos h]
theorem wh_mid (a : Int) (h : ¬ exI a < 0) (h8 : exI a ≤ 8) : WH (manI a) (exI a) = min (manI a * 2 ^ (exI a).toNat) 2147483648 := by
  unfold WH; rw [if_neg h, show (min (exI a) 8).toNat = (exI a).toNat from by omega]
theorem wh_far (a : Int) (h8 : 8 < exI a) : WH (manI a) (exI a) = 2147483648 := by
  have : 8388608 ≤ manI a := by unfold exI at h8; unfold manI; split <;> (split at h8 <;> omega)
  unfold WH; rw [if_neg (by omega), show (min (exI a) 8).toNat = 8 from by omega, show (2 : Int) ^ 8 = 256 from rfl]; omega
theorem wh_inf (a : Int) (h : a % 2147483648 = 2139095040) : WH (manI a) (exI a) = 2147483648 := by
  apply wh_far
  unfold exI; rw [if_neg (by omega)]; omega
end Go.Proofs.Ytkncmjnakjkndaa
