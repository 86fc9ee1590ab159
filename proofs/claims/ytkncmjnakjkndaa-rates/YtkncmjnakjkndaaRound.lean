/-
  What tutorref.Round answers: the pattern that a whole number times a power of 2 rounds to, with its sign. Conditions: the whole number is 0 to 2^63 - 1, the power is -900 to 900.
-/
import Derived.Test.YtkncmjnakjkndaaMath3
import Derived.Test.YtkncmjnakjkndaaSoft
namespace Go.Proofs.Ytkncmjnakjkndaa
open Go.RowKit
/-- a sign -/
def sg (s : Bool) : Int := if s = true then 2147483648 else 0
set_option maxHeartbeats 400000 in
theorem signed_any (m : Bool) (a : Int) (w : World) (h0 : 0 ≤ a) (h1 : a < 4294967296) :
    Calls Try.prog 71 #[.bool m, .int .i64 a] w fun e w' => e = .returned (.int .i64 (a + sg m)) ∧ w' = w := by
  cases m
  · go_enter Try.func71, Try.ntmps71
    go_wp2
    go_ret
    exact ⟨ret_int (by simp [sg]), rfl⟩
  · go_enter Try.func71, Try.ntmps71
    go_wp2
    go_ret
    exact ⟨ret_int (by simp [sg]), rfl⟩
theorem k_small (m : Int) (k : Nat) (h0 : 0 ≤ m) (h1 : m < 9223372036854775808) (h : 0 < m.toNat / 2 ^ k ∨ midB m.toNat k = true) : k ≤ 63 := by
  refine Nat.le_of_not_lt fun hk => ?_
  have hp : 2 ^ 63 ≤ 2 ^ (k - 1) := Nat.pow_le_pow_right (by decide) (by omega)
  have hq : 2 ^ (k - 1) ≤ 2 ^ k := Nat.pow_le_pow_right (by decide) (by omega)
  have a : m.toNat / 2 ^ k = 0 := Nat.div_eq_of_lt (by omega)
  have b : m.toNat / 2 ^ (k - 1) = 0 := Nat.div_eq_of_lt (by omega)
  rcases h with h | h
  · omega
  · unfold midB at h; rw [b] at h; simp at h
theorem mid_next (m k : Nat) : (((m / 2 ^ k : Nat) : Int) % 2 == 1) = midB m (k + 1) := by
  rw [midB_succ]
  by_cases h : m / 2 ^ k % 2 = 1
  · rw [decide_eq_true h, beq_iff_eq]; omega
  · rw [decide_eq_false h, beq_eq_false_iff_ne]; omega
theorem div_next (m k : Nat) : ((m / 2 ^ k : Nat) : Int) / 2 = ((m / 2 ^ (k + 1) : Nat) : Int) := by rw [div_succ]; omega
theorem next_ok (m e : Int) (k : Nat) (h : 16777216 ≤ m.toNat / 2 ^ k ∨ e + k < -149) : k + 1 = 0 ∨ 16777216 ≤ m.toNat / 2 ^ (k + 1 - 1) ∨ e + ((k + 1 : Nat) : Int) - 1 < -149 := by
  rcases h with h | h
  · exact .inr (.inl h)
  · exact .inr (.inr (by omega))
theorem int_eq {k : IntKind} {a b : Int} (h : a = b) : Value.int k a = .int k b := by rw [h]
set_option maxHeartbeats 4000000 in
theorem round_any (s : Bool) (m e : Int) (w : World) (h0 : 0 ≤ m) (h1 : m < 9223372036854775808) (h2 : -900 ≤ e) (h3 : e ≤ 900) :
    Calls Try.prog 65 #[.bool s, .int .i64 m, .int .i64 e] w fun r w' => r = .returned (.int .i64 (RI m e + sg s)) ∧ w' = w := by
  go_enter Try.func65, Try.ntmps65
  go_wp2
  go_loop [1, 2, 7, 8] (fun mv ev iv lv => ∃ k : Nat, mv = .int .i64 (m.toNat / 2 ^ k : Nat) ∧ ev = .int .i64 (e + k) ∧ iv = .bool (midB m.toNat k) ∧ lv = .bool (lessB m.toNat k) ∧ k ≤ 64 ∧ Hid (k = 0 ∨ 16777216 ≤ m.toNat / 2 ^ (k - 1) ∨ e + k - 1 < -149)) (fun _ ev _ _ => (70 + e - intOf ev).toNat)
  case atStart => exact ⟨0, by simp; omega, by simp, rfl, by simp [lessB, Nat.mod_one], by omega, .inl rfl⟩
  case round =>
    obtain ⟨k, rfl, rfl, rfl, rfl, hk64, hk⟩ := hrel
    have N1 : Hid _ := mid_next m.toNat k
    have N2 : Hid _ := div_next m.toNat k
    have N3 : Hid _ := lessB_succ m.toNat k
    have N4 : Hid _ := k_small m k h0 h1
    have N5 : Hid _ := rne_bits m.toNat k
    have N6 : Hid _ := RI_gone m e k
    have N7 : Hid _ := RI_step m e k
    have N8 : Hid _ := next_ok m e k
    have Mb : m.toNat / 2 ^ k < 9223372036854775808 := Nat.lt_of_le_of_lt (Nat.div_le_self _ _) (by omega)
    obtain ⟨M, hM⟩ : ∃ M, M = m.toNat / 2 ^ k := ⟨_, rfl⟩
    obtain ⟨I, hI⟩ : ∃ I, I = midB m.toNat k := ⟨_, rfl⟩
    obtain ⟨L, hL⟩ : ∃ L, L = lessB m.toNat k := ⟨_, rfl⟩
    rw [← hM] at N1 N2 N4 N5 N6 N7 N8 Mb ⊢
    rw [← hI] at N3 N4 N5 N6 ⊢
    rw [← hL] at N3 N5 ⊢
    clear hM hI hL
    by_cases hc : 16777216 ≤ M ∨ (e + k < -149 ∧ (0 < M ∨ I = true))
    · -- one bit more goes
      have hk63 : k ≤ 63 := N4.out (by rcases hc with h | h; exact .inl (by omega); exact h.2)
      have hk' : Hid (k + 1 = 0 ∨ 16777216 ≤ m.toNat / 2 ^ (k + 1 - 1) ∨ e + ((k + 1 : Nat) : Int) - 1 < -149) := N8.out (by omega)
      clear N4 N5 N6 N7 N8 hk
      by_cases c1 : (16777216 : Int) ≤ M
      · clear hc
        cases L <;> cases I
        all_goals
          go_wp2
          go_round
          case rel => exact ⟨k + 1, int_eq N2.out, int_eq (by omega), congrArg _ N1.out, congrArg _ N3.out.symm, by omega, hk'⟩
          case measure => simp [intOf]; omega
      · have c2 : e + k < -149 := by omega
        by_cases c3 : (0 : Int) < M
        · clear hc
          cases L <;> cases I
          all_goals
            go_wp2
            go_round
            case rel => exact ⟨k + 1, int_eq N2.out, int_eq (by omega), congrArg _ N1.out, congrArg _ N3.out.symm, by omega, hk'⟩
            case measure => simp [intOf]; omega
        · have c4 : I = true := by
            rcases hc with h | h
            · omega
            · exact h.2.resolve_left (by omega)
          clear hc
          subst c4
          obtain rfl : M = 0 := by omega
          have N1' : Hid (false = midB m.toNat (k + 1)) := N1.out
          have N2' : Hid ((0 : Int) = (m.toNat / 2 ^ (k + 1) : Nat)) := N2.out
          clear N1 N2
          cases L
          all_goals
            go_wp2
            go_round
            case rel => exact ⟨k + 1, int_eq N2'.out, int_eq (by omega), congrArg _ N1'.out, congrArg _ N3.out.symm, by omega, hk'⟩
            case measure => simp [intOf]; omega
    · clear N1 N2 N3 N4 N8
      have c1 : (M : Int) < 16777216 := by omega
      by_cases c2 : e + k < -149
      · have c3 : M = 0 := by omega
        have c4 : I = false := by
          cases I
          · rfl
          · exact absurd (.inr ⟨c2, .inr rfl⟩) hc
        have hz : Hid _ := N6.out c2 c3 c4 h2
        clear hc N5 N6 N7
        subst c3 c4
        go_wp2_with (first | (go_at_call 71; refine (signed_any _ _ _ (by omega) (by omega)).mono ?_; rintro e w' ⟨rfl, rfl⟩))
        go_ret
        refine ⟨congrArg Ending.returned (congrArg (Value.int IntKind.i64) ?_), rfl⟩
        rw [hz.out, Int.zero_add]
      · obtain ⟨hr, hq⟩ := N7.out (by omega) (by omega) hk.out h2 h0
        have N5 := N5.out
        clear hc N6 N7 hk
        generalize rne m.toNat k = q at *
        have hr : Hid _ := hr
        obtain ⟨f, hf⟩ : ∃ f, f = e + k := ⟨_, rfl⟩
        have f1 : -149 ≤ f := by omega
        have f2 : f ≤ 964 := by omega
        rw [← hf] at hr ⊢
        clear hf c2
        cases I
        · obtain rfl : q = M := by rw [N5]; simp
          clear N5 hq Mb
          obtain ⟨Q, hQ⟩ : ∃ Q : Int, Q = q := ⟨_, rfl⟩
          have q0 : 0 ≤ Q := by omega
          rw [← hQ] at c1 hr ⊢
          clear hQ
          have d1 : (Q == 16777216) = false := by simp only [beq_eq_false_iff_ne, ne_eq]; omega
          go_wp2
          go_loop [1, 2] (fun mv ev => ∃ a g : Int, mv = .int .i64 a ∧ ev = .int .i64 g ∧ 0 ≤ a ∧ a < 16777216 ∧ -149 ≤ g ∧ g ≤ 1000 ∧ Hid (RI a g = RI m e)) (fun _ ev => (intOf ev + 149).toNat)
          case atStart => exact ⟨_, _, rfl, rfl, by omega, by omega, by omega, by omega, hr⟩
          case round =>
            clear hr
            obtain ⟨a, g, rfl, rfl, a0, a1, g0, g1, ha⟩ := hrel
            have hsm : Hid _ := RI_same a g (2 * a) (g - 1) a0 1 (by omega) (by omega) (by omega)
            by_cases d : 0 < a ∧ a < 8388608 ∧ -149 < g
            · obtain ⟨d1, d2, d3⟩ := d
              go_wp2
              go_round
              case rel => exact ⟨2 * a, g - 1, rfl, rfl, by omega, by omega, by omega, by omega, hsm.out.trans ha.out⟩
              case measure => simp [intOf]; omega
            · clear hsm
              by_cases e1 : a < 8388608
              · have hl : Hid _ := (RI_low a g a0 e1 (by omega)).symm.trans ha.out
                clear ha
                by_cases e2 : 0 < a
                all_goals
                  go_wp2_with (first | (go_at_call 71; refine (signed_any _ _ _ (by omega) (by omega)).mono ?_; rintro e w' ⟨rfl, rfl⟩))
                  go_ret
                  refine ⟨congrArg Ending.returned (congrArg (Value.int IntKind.i64) ?_), rfl⟩
                  rw [← hl.out]
              · have hl : Hid _ := (RI_high a g (by omega) a1 g0).symm.trans ha.out
                clear ha d
                have e2 : 0 < a := by omega
                by_cases e3 : 255 ≤ g + 150
                all_goals
                  go_wp2_with (first | (go_at_call 71; refine (signed_any _ _ _ (by omega) (by omega)).mono ?_; rintro e w' ⟨rfl, rfl⟩))
                  go_ret
                  refine ⟨congrArg Ending.returned (congrArg (Value.int IntKind.i64) ?_), rfl⟩
                  rw [← hl.out]
                  omega
        · obtain ⟨Mi, hMi⟩ : ∃ Mi : Int, Mi = M := ⟨_, rfl⟩
          have m0 : 0 ≤ Mi := by omega
          by_cases hu : L = true ∨ M % 2 = 1
          · rw [if_pos ⟨rfl, hu⟩] at N5
            subst N5
            replace hr : Hid (RI (Mi + 1) f = RI m e) := by
              have := hr.out
              rw [show (((M + 1 : Nat)) : Int) = Mi + 1 from by omega] at this; exact this
            replace hu : L = true ∨ Mi % 2 = 1 := hu.imp_right fun h => by omega
            rw [← hMi] at c1 ⊢
            clear hMi hq Mb
            by_cases hx : Mi = 16777215
            · subst hx
              replace hr : Hid (RI 8388608 (f + 1) = RI m e) := (RI_same 8388608 (f + 1) 16777216 f (by omega) 1 (by omega) (by omega) (by omega)).symm.trans hr.out
              cases L
              all_goals
                go_wp2
                go_loop [1, 2] (fun mv ev => ∃ a g : Int, mv = .int .i64 a ∧ ev = .int .i64 g ∧ 0 ≤ a ∧ a < 16777216 ∧ -149 ≤ g ∧ g ≤ 1000 ∧ Hid (RI a g = RI m e)) (fun _ ev => (intOf ev + 149).toNat)
                case atStart => exact ⟨_, _, rfl, rfl, by omega, by omega, by omega, by omega, hr⟩
                case round =>
                  clear hr
                  obtain ⟨a, g, rfl, rfl, a0, a1, g0, g1, ha⟩ := hrel
                  have hsm : Hid _ := RI_same a g (2 * a) (g - 1) a0 1 (by omega) (by omega) (by omega)
                  by_cases d : 0 < a ∧ a < 8388608 ∧ -149 < g
                  · obtain ⟨d1, d2, d3⟩ := d
                    go_wp2
                    go_round
                    case rel => exact ⟨2 * a, g - 1, rfl, rfl, by omega, by omega, by omega, by omega, hsm.out.trans ha.out⟩
                    case measure => simp [intOf]; omega
                  · clear hsm
                    by_cases e1 : a < 8388608
                    · have hl : Hid _ := (RI_low a g a0 e1 (by omega)).symm.trans ha.out
                      clear ha
                      by_cases e2 : 0 < a
                      all_goals
                        go_wp2_with (first | (go_at_call 71; refine (signed_any _ _ _ (by omega) (by omega)).mono ?_; rintro e w' ⟨rfl, rfl⟩))
                        go_ret
                        refine ⟨congrArg Ending.returned (congrArg (Value.int IntKind.i64) ?_), rfl⟩
                        rw [← hl.out]
                    · have hl : Hid _ := (RI_high a g (by omega) a1 g0).symm.trans ha.out
                      clear ha d
                      have e2 : 0 < a := by omega
                      by_cases e3 : 255 ≤ g + 150
                      all_goals
                        go_wp2_with (first | (go_at_call 71; refine (signed_any _ _ _ (by omega) (by omega)).mono ?_; rintro e w' ⟨rfl, rfl⟩))
                        go_ret
                        refine ⟨congrArg Ending.returned (congrArg (Value.int IntKind.i64) ?_), rfl⟩
                        rw [← hl.out]
                        omega
            · have d1 : (Mi + 1 == 16777216) = false := by simp only [beq_eq_false_iff_ne, ne_eq]; omega
              have m9 : Mi < 16777215 := by omega
              clear hx
              cases L
              · have o1 : (Mi % 2 == 1) = true := by simp only [beq_iff_eq]; simpa using hu
                clear hu
                go_wp2
                go_loop [1, 2] (fun mv ev => ∃ a g : Int, mv = .int .i64 a ∧ ev = .int .i64 g ∧ 0 ≤ a ∧ a < 16777216 ∧ -149 ≤ g ∧ g ≤ 1000 ∧ Hid (RI a g = RI m e)) (fun _ ev => (intOf ev + 149).toNat)
                case atStart => exact ⟨_, _, rfl, rfl, by omega, by omega, by omega, by omega, hr⟩
                case round =>
                  clear hr
                  obtain ⟨a, g, rfl, rfl, a0, a1, g0, g1, ha⟩ := hrel
                  have hsm : Hid _ := RI_same a g (2 * a) (g - 1) a0 1 (by omega) (by omega) (by omega)
                  by_cases d : 0 < a ∧ a < 8388608 ∧ -149 < g
                  · obtain ⟨d1, d2, d3⟩ := d
                    go_wp2
                    go_round
                    case rel => exact ⟨2 * a, g - 1, rfl, rfl, by omega, by omega, by omega, by omega, hsm.out.trans ha.out⟩
                    case measure => simp [intOf]; omega
                  · clear hsm
                    by_cases e1 : a < 8388608
                    · have hl : Hid _ := (RI_low a g a0 e1 (by omega)).symm.trans ha.out
                      clear ha
                      by_cases e2 : 0 < a
                      all_goals
                        go_wp2_with (first | (go_at_call 71; refine (signed_any _ _ _ (by omega) (by omega)).mono ?_; rintro e w' ⟨rfl, rfl⟩))
                        go_ret
                        refine ⟨congrArg Ending.returned (congrArg (Value.int IntKind.i64) ?_), rfl⟩
                        rw [← hl.out]
                    · have hl : Hid _ := (RI_high a g (by omega) a1 g0).symm.trans ha.out
                      clear ha d
                      have e2 : 0 < a := by omega
                      by_cases e3 : 255 ≤ g + 150
                      all_goals
                        go_wp2_with (first | (go_at_call 71; refine (signed_any _ _ _ (by omega) (by omega)).mono ?_; rintro e w' ⟨rfl, rfl⟩))
                        go_ret
                        refine ⟨congrArg Ending.returned (congrArg (Value.int IntKind.i64) ?_), rfl⟩
                        rw [← hl.out]
                        omega
              · go_wp2
                go_loop [1, 2] (fun mv ev => ∃ a g : Int, mv = .int .i64 a ∧ ev = .int .i64 g ∧ 0 ≤ a ∧ a < 16777216 ∧ -149 ≤ g ∧ g ≤ 1000 ∧ Hid (RI a g = RI m e)) (fun _ ev => (intOf ev + 149).toNat)
                case atStart => exact ⟨_, _, rfl, rfl, by omega, by omega, by omega, by omega, hr⟩
                case round =>
                  clear hr
                  obtain ⟨a, g, rfl, rfl, a0, a1, g0, g1, ha⟩ := hrel
                  have hsm : Hid _ := RI_same a g (2 * a) (g - 1) a0 1 (by omega) (by omega) (by omega)
                  by_cases d : 0 < a ∧ a < 8388608 ∧ -149 < g
                  · obtain ⟨d1, d2, d3⟩ := d
                    go_wp2
                    go_round
                    case rel => exact ⟨2 * a, g - 1, rfl, rfl, by omega, by omega, by omega, by omega, hsm.out.trans ha.out⟩
                    case measure => simp [intOf]; omega
                  · clear hsm
                    by_cases e1 : a < 8388608
                    · have hl : Hid _ := (RI_low a g a0 e1 (by omega)).symm.trans ha.out
                      clear ha
                      by_cases e2 : 0 < a
                      all_goals
                        go_wp2_with (first | (go_at_call 71; refine (signed_any _ _ _ (by omega) (by omega)).mono ?_; rintro e w' ⟨rfl, rfl⟩))
                        go_ret
                        refine ⟨congrArg Ending.returned (congrArg (Value.int IntKind.i64) ?_), rfl⟩
                        rw [← hl.out]
                    · have hl : Hid _ := (RI_high a g (by omega) a1 g0).symm.trans ha.out
                      clear ha d
                      have e2 : 0 < a := by omega
                      by_cases e3 : 255 ≤ g + 150
                      all_goals
                        go_wp2_with (first | (go_at_call 71; refine (signed_any _ _ _ (by omega) (by omega)).mono ?_; rintro e w' ⟨rfl, rfl⟩))
                        go_ret
                        refine ⟨congrArg Ending.returned (congrArg (Value.int IntKind.i64) ?_), rfl⟩
                        rw [← hl.out]
                        omega
          · rw [if_neg (fun h => hu h.2)] at N5
            obtain rfl : q = M := by omega
            have l1 : L = false := by
              cases L
              · rfl
              · exact absurd (.inl rfl) hu
            subst l1
            have o1 : (Mi % 2 == 1) = false := by simp only [beq_eq_false_iff_ne, ne_eq]; omega
            rw [← hMi] at c1 hr ⊢
            clear hMi hq Mb hu N5
            have d1 : (Mi == 16777216) = false := by simp only [beq_eq_false_iff_ne, ne_eq]; omega
            go_wp2
            go_loop [1, 2] (fun mv ev => ∃ a g : Int, mv = .int .i64 a ∧ ev = .int .i64 g ∧ 0 ≤ a ∧ a < 16777216 ∧ -149 ≤ g ∧ g ≤ 1000 ∧ Hid (RI a g = RI m e)) (fun _ ev => (intOf ev + 149).toNat)
            case atStart => exact ⟨_, _, rfl, rfl, by omega, by omega, by omega, by omega, hr⟩
            case round =>
              clear hr
              obtain ⟨a, g, rfl, rfl, a0, a1, g0, g1, ha⟩ := hrel
              have hsm : Hid _ := RI_same a g (2 * a) (g - 1) a0 1 (by omega) (by omega) (by omega)
              by_cases d : 0 < a ∧ a < 8388608 ∧ -149 < g
              · obtain ⟨d1, d2, d3⟩ := d
                go_wp2
                go_round
                case rel => exact ⟨2 * a, g - 1, rfl, rfl, by omega, by omega, by omega, by omega, hsm.out.trans ha.out⟩
                case measure => simp [intOf]; omega
              · clear hsm
                by_cases e1 : a < 8388608
                · have hl : Hid _ := (RI_low a g a0 e1 (by omega)).symm.trans ha.out
                  clear ha
                  by_cases e2 : 0 < a
                  all_goals
                    go_wp2_with (first | (go_at_call 71; refine (signed_any _ _ _ (by omega) (by omega)).mono ?_; rintro e w' ⟨rfl, rfl⟩))
                    go_ret
                    refine ⟨congrArg Ending.returned (congrArg (Value.int IntKind.i64) ?_), rfl⟩
                    rw [← hl.out]
                · have hl : Hid _ := (RI_high a g (by omega) a1 g0).symm.trans ha.out
                  clear ha d
                  have e2 : 0 < a := by omega
                  by_cases e3 : 255 ≤ g + 150
                  all_goals
                    go_wp2_with (first | (go_at_call 71; refine (signed_any _ _ _ (by omega) (by omega)).mono ?_; rintro e w' ⟨rfl, rfl⟩))
                    go_ret
                    refine ⟨congrArg Ending.returned (congrArg (Value.int IntKind.i64) ?_), rfl⟩
                    rw [← hl.out]
                    omega
end Go.Proofs.Ytkncmjnakjkndaa
