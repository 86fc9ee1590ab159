/-
  What tutorref.Sigmoid, Tanh and Cos answer: the same as those of package soft. Conditions: the pattern is 0 to 2^32 - 1.
-/
import Derived.Test.YtkncmjnakjkndaaRefExp
namespace Go.Proofs.Ytkncmjnakjkndaa
open Go.RowKit
set_option linter.unusedVariables false
set_option linter.unusedSimpArgs false
theorem rexp_any (a : Int) (w : World) (h0 : 0 ≤ a) (h1 : a < 4294967296) :
    Calls Try.prog 37 #[.int .i64 a] w fun e w' => e = .returned (.int .i64 (EXP a)) ∧ Below w.heap.size w w' := by
  unfold EXP
  cases na : isNone a
  · rw [if_neg (by simp)]
    cases l1 : LESS 1118925335 a
    · rw [if_neg (by simp)]
      cases l2 : LESS a 3268407733
      · rw [if_neg (by simp)]; exact rexp_4 a w h0 h1 na l1 l2 (k_bd a h0 h1 na l1 l2)
      · rw [if_pos rfl]; exact rexp_3 a w h0 h1 na l1 l2
    · rw [if_pos rfl]; exact rexp_2 a w h0 h1 na l1
  · rw [if_pos rfl]; exact rexp_1 a w h0 h1 na
theorem SIG_none (a : Int) (h0 : 0 ≤ a) (h1 : a < 4294967296) (na : isNone a = true) : SIG a = 2143289344 := by
  have hn : isNone ((a + 2147483648) % 4294967296) = true := by rw [none_iff] at na ⊢; omega
  have e1 : EXP ((a + 2147483648) % 4294967296) = 2143289344 := by unfold EXP; rw [if_pos hn]
  unfold SIG
  rw [e1, ADD_none (.inr (by decide))]
  unfold DIV
  rw [if_pos (.inr (by decide))]
set_option maxHeartbeats 1000000 in
theorem rsig_any (a : Int) (w : World) (h0 : 0 ≤ a) (h1 : a < 4294967296) :
    Calls Try.prog 38 #[.int .i64 a] w fun e w' => e = .returned (.int .i64 (SIG a)) ∧ Below w.heap.size w w' := by
  have BB : Hid (Below w.heap.size w w) := Below.refl _ _
  cases na : isNone a
  · unfold SIG
    have eb := EXP_bd ((a + 2147483648) % 4294967296)
    have ab := ADD_bd 1065353216 (EXP ((a + 2147483648) % 4294967296)) (by decide) (by decide) eb.1 eb.2
    go_enter Try.func38, Try.ntmps38
    go_wp2_with (first | (go_at_call 63; refine (of_any _ _ (by omega) (by omega)).mono ?_; rintro e wn ⟨rfl, hbn⟩; (first | replace BB := BBstep BB hbn | replace BB := BBstepA BB hbn); clear hbn; unfold numV) | (go_at_call 66; refine (rturned_any _ _ (by omega) (by omega)).mono ?_; rintro e w' ⟨rfl, rfl⟩) | (go_at_call 37; refine (rexp_any _ _ (by omega) (by omega)).mono ?_; rintro e wn ⟨rfl, hbn⟩; (first | replace BB := BBstep BB hbn | replace BB := BBstepA BB hbn); clear hbn) | (go_at_call 19; refine (radd_any _ _ _ (by omega) (by omega) (by omega) (by omega)).mono ?_; rintro e wn ⟨rfl, hbn⟩; (first | replace BB := BBstep BB hbn | replace BB := BBstepA BB hbn); clear hbn) | (go_at_call 24; refine (rdiv_any _ _ _ (by omega) (by omega) (by omega) (by omega)).mono ?_; rintro e wn ⟨rfl, hbn⟩; (first | replace BB := BBstep BB hbn | replace BB := BBstepA BB hbn); clear hbn))
    go_ret
    exact ⟨rfl, BBend BB⟩
  · rw [SIG_none a h0 h1 na]
    go_enter Try.func38, Try.ntmps38
    go_wp2_with (first | (go_at_call 63; refine (of_any _ _ (by omega) (by omega)).mono ?_; rintro e wn ⟨rfl, hbn⟩; (first | replace BB := BBstep BB hbn | replace BB := BBstepA BB hbn); clear hbn; unfold numV))
    go_ret
    exact ⟨rfl, BBendA BB⟩
set_option maxHeartbeats 1000000 in
theorem rtanh_any (a : Int) (w : World) (h0 : 0 ≤ a) (h1 : a < 4294967296) :
    Calls Try.prog 39 #[.int .i64 a] w fun e w' => e = .returned (.int .i64 (TANH a)) ∧ Below w.heap.size w w' := by
  have BB : Hid (Below w.heap.size w w) := Below.refl _ _
  unfold TANH
  have b1 := MUL_bd 1073741824 a
  have b2 := SIG_bd (MUL 1073741824 a)
  have b3 := MUL_bd 1073741824 (SIG (MUL 1073741824 a))
  go_enter Try.func39, Try.ntmps39
  go_wp2_with (first | (go_at_call 23; refine (rmul_any _ _ _ (by omega) (by omega) (by omega) (by omega)).mono ?_; rintro e wn ⟨rfl, hbn⟩; (first | replace BB := BBstep BB hbn | replace BB := BBstepA BB hbn); clear hbn) | (go_at_call 38; refine (rsig_any _ _ (by omega) (by omega)).mono ?_; rintro e wn ⟨rfl, hbn⟩; (first | replace BB := BBstep BB hbn | replace BB := BBstepA BB hbn); clear hbn) | (go_at_call 20; refine (rsub_any _ _ _ (by omega) (by omega) (by omega) (by omega)).mono ?_; rintro e wn ⟨rfl, hbn⟩; (first | replace BB := BBstep BB hbn | replace BB := BBstepA BB hbn); clear hbn))
  go_ret
  exact ⟨rfl, BBend BB⟩
set_option maxHeartbeats 1000000 in
theorem rcos_any (a : Int) (w : World) (h0 : 0 ≤ a) (h1 : a < 4294967296) :
    Calls Try.prog 40 #[.int .i64 a] w fun e w' => e = .returned (.int .i64 (COS a)) ∧ Below w.heap.size w w' := by
  have BB : Hid (Below w.heap.size w w) := Below.refl _ _
  unfold COS
  cases l : LESS 1056964608 a
  · rw [if_neg (by simp)]
    unfold COS1
    have b2 := MUL_bd 1078530011 a
    have b3 := MUL_bd (MUL 1078530011 a) (MUL 1078530011 a)
    go_enter Try.func40, Try.ntmps40
    go_wp2_with (first | (go_at_call 30; refine (rless_any _ _ _ (by omega) (by omega) (by omega) (by omega)).mono ?_; rintro e wn ⟨rfl, hbn⟩; (first | replace BB := BBstep BB hbn | replace BB := BBstepA BB hbn); clear hbn) | (go_at_call 23; refine (rmul_any _ _ _ (by omega) (by omega) (by omega) (by omega)).mono ?_; rintro e wn ⟨rfl, hbn⟩; (first | replace BB := BBstep BB hbn | replace BB := BBstepA BB hbn); clear hbn))
    refine (rpoly_any _ 5 cCos _ _ b3.1 b3.2 (by decide) (by decide) (rcells5 _) cCos_bd (by simp)).mono ?_
    rintro e wn ⟨rfl, hbn⟩
    replace BB := BBstepA BB hbn
    clear hbn
    go_wp2
    go_ret
    exact ⟨rfl, BBend BB⟩
  · rw [if_pos rfl]
    have b1 := SUB_bd 1065353216 a (by decide) (by decide)
    obtain ⟨b, hb⟩ : ∃ b, SUB 1065353216 a = b := ⟨_, rfl⟩
    rw [hb] at b1 ⊢
    have b4 := COS1_bd b
    unfold COS1 at b4 ⊢
    have b2 := MUL_bd 1078530011 b
    have b3 := MUL_bd (MUL 1078530011 b) (MUL 1078530011 b)
    go_enter Try.func40, Try.ntmps40
    go_wp2_with (first | (go_at_call 30; refine (rless_any _ _ _ (by omega) (by omega) (by omega) (by omega)).mono ?_; rintro e wn ⟨rfl, hbn⟩; (first | replace BB := BBstep BB hbn | replace BB := BBstepA BB hbn); clear hbn) | (go_at_call 20; refine (rsub_any _ _ _ (by omega) (by omega) (by omega) (by omega)).mono ?_; rintro e wn ⟨rfl, hbn⟩; (first | replace BB := BBstep BB hbn | replace BB := BBstepA BB hbn); clear hbn) | (go_at_call 23; refine (rmul_any _ _ _ (by omega) (by omega) (by omega) (by omega)).mono ?_; rintro e wn ⟨rfl, hbn⟩; (first | replace BB := BBstep BB hbn | replace BB := BBstepA BB hbn); clear hbn))
    refine (rpoly_any _ 5 cCos _ _ b3.1 b3.2 (by decide) (by decide) (rcells5 _) cCos_bd (by simp)).mono ?_
    rintro e wn ⟨rfl, hbn⟩
    replace BB := BBstepA BB hbn
    clear hbn
    go_wp2_with (first | (go_at_call 66; refine (rturned_any _ _ (by omega) (by omega)).mono ?_; rintro e w' ⟨rfl, rfl⟩))
    go_ret
    exact ⟨rfl, BBend BB⟩
theorem TANH_bd (a : Int) : 0 ≤ TANH a ∧ TANH a < 4294967296 := by
  have b3 := MUL_bd 1073741824 (SIG (MUL 1073741824 a))
  exact SUB_bd _ _ b3.1 b3.2
theorem COS_bd (a : Int) : 0 ≤ COS a ∧ COS a < 4294967296 := by
  have h1 := COS1_bd a
  unfold COS; split <;> omega
end Go.Proofs.Ytkncmjnakjkndaa
