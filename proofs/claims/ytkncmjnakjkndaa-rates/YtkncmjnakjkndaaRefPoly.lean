/-
  What tutorref.Poly and tutorref.Power answer: a polynomial by tutorref.Add and tutorref.Mul, in whatever order the open one is taken; a power of 2. Conditions: as each theorem names them.
-/
import Derived.Test.YtkncmjnakjkndaaRefMul
import Derived.Test.YtkncmjnakjkndaaExp
import Derived.Deep.RegionWith
namespace Go.Proofs.Ytkncmjnakjkndaa
open Go.RowKit
set_option linter.unusedVariables false
set_option linter.unusedSimpArgs false
set_option maxHeartbeats 2000000 in
theorem rpoly_any (x : Int) (n : Nat) (c : Nat → Int) (g : Nat) (w : World) (x0 : 0 ≤ x) (x1 : x < 4294967296) (n0 : 1 < n) (n1 : n ≤ 100)
    (hc : ∀ j, j < n → w.cell? ⟨g, j, none⟩ = some (.int .i64 (c j))) (hb : ∀ j, 0 ≤ c j ∧ c j < 4294967296) (hg : g < w.heap.size) :
    Calls Try.prog 85 #[.int .i64 x, .slice (some ⟨g, 0, none⟩) n n] w fun e w' => e = .returned (.int .i64 (polyK c x (n - 1))) ∧ Below w.heap.size w w' := by
  have c0 := hc 0 (by omega)
  have HC : Hid _ := hc
  have HBB : Hid _ := hb
  clear hc hb
  go_enter Try.func85, Try.ntmps85
  go_wp2
  go_loopw [5, 6] (fun pv iv wr => ∃ k : Nat, k + 1 ≤ n ∧ iv = .int .i64 (k + 1 : Nat) ∧ pv = .int .i64 (polyK c x k) ∧ Hid (Below w.heap.size w wr)) (fun _ iv _ => n - (intOf iv).toNat)
  case atStart => exact ⟨0, by omega, rfl, rfl, Below.refl _ _⟩
  case round =>
    obtain ⟨k, hk, rfl, rfl, BW⟩ := hrel
    have pb := polyK_bd c x HBB.out k
    have mb := MUL_bd' (polyK c x k) x
    have R : Hid (polyK c x (k + 1) = ADD (MUL (polyK c x k) x) (c (k + 1))) := rfl
    obtain ⟨p, hp⟩ : ∃ p, p = polyK c x k := ⟨_, rfl⟩
    rw [← hp] at pb mb R ⊢
    have hs := BW.out.size
    by_cases hlt : k + 1 < n
    · have ck : wr.cell? ⟨g, k + 1, none⟩ = some (.int .i64 (c (k + 1))) := by rw [BW.out.cell hg]; exact HC.out (k + 1) hlt
      have cb := HBB.out (k + 1)
      clear hp
      obtain ⟨i, hi⟩ : ∃ i : Nat, i = k + 1 := ⟨_, rfl⟩
      rw [← hi] at ck cb R hlt ⊢
      obtain ⟨ci, hci⟩ : ∃ ci, ci = c i := ⟨_, rfl⟩
      rw [← hci] at ck cb R
      have HI : Hid _ := hi
      have hi0 : 0 < i := by omega
      clear hci hi hk
      go_wp2
      go_region_with (first | (go_at_call 23; refine (rmul_any _ _ _ (by omega) (by omega) (by omega) (by omega)).mono ?_; rintro e w1 ⟨rfl, hb1⟩; have ck1 : w1.cell? ⟨g, i, none⟩ = some (.int .i64 ci) := (hb1.cell (p := ⟨g, i, none⟩) (Nat.lt_of_lt_of_le hg hs)).trans ck; have s1 := hb1.size; have HB1 : Hid _ := hb1; clear hb1) | (go_at_call 19; refine (radd_any _ _ _ (by omega) (by omega) (by omega) (by omega)).mono ?_; rintro e w2 ⟨rfl, hb2⟩; have HB2 : Hid _ := hb2; clear hb2))
      all_goals
        have BB : Hid (Below w.heap.size w w2) := (BW.out.drew.trans (HB1.out.mono hs)).trans (HB2.out.mono (Nat.le_trans hs s1))
        clear HB1 HB2 ck1
        go_wp2
        go_roundw
        case rel => exact ⟨i, by omega, by go_num, congrArg _ R.out.symm, BB⟩
        case measure => simp [intOf]; omega
    · have hkn : k = n - 1 := by omega
      rw [hkn] at hp
      have HP : Hid _ := hp
      clear hp R hkn
      go_wp2
      go_ret
      refine ⟨congrArg Ending.returned (congrArg (Value.int IntKind.i64) ?_), BW.out⟩
      exact HP.out
set_option maxHeartbeats 400000 in
theorem rpow_any (n : Int) (w : World) (h0 : -127 ≤ n) (h1 : n ≤ 128) :
    Calls Try.prog 86 #[.int .i64 n] w fun e w' => e = .returned (.int .i64 (POW n)) ∧ w' = w := by
  unfold POW
  go_enter Try.func86, Try.ntmps86
  go_wp2
  go_ret
  exact ⟨rfl, rfl⟩
end Go.Proofs.Ytkncmjnakjkndaa
