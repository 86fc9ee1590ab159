/-
  What tutorref.Of and tutorref.shifted answer. Conditions: a pattern is 0 to 2^32 - 1; a number that is shifted is 0 to 2^24, by 0 to 37 places.
-/
import Derived.Test.YtkncmjnakjkndaaRound
import Derived.Test.YtkncmjnakjkndaaMath4
import Derived.Deep.QuietTactic
import Derived.BigQuiet
namespace Go.Proofs.Ytkncmjnakjkndaa
open Go.RowKit
def ofM (a : Int) : Int := if a % 2147483648 < 2139095040 then manI a else 0
def ofE (a : Int) : Int := if a % 2147483648 < 2139095040 then exI a else 0
def numV (a : Int) : Value := .agg #[.bool (isNone a), .bool (isInf a), .bool (isNeg a), .int .i64 (ofM a), .int .i64 (ofE a)]
theorem of_val (a : Int) (m e : Int) (n i : Bool) (hn : isNone a = n) (hi : isInf a = i) (hm : ofM a = m) (he : ofE a = e) : numV a = .agg #[.bool n, .bool i, .bool (isNeg a), .int .i64 m, .int .i64 e] := by
  unfold numV; rw [hn, hi, hm, he]
set_option maxHeartbeats 400000 in
theorem of_any (a : Int) (w : World) (h0 : 0 ≤ a) (h1 : a < 4294967296) :
    Calls Try.prog 63 #[.int .i64 a] w fun e w' => e = .returned (numV a) ∧ Below w.heap.size w w' := by
  by_cases c1 : a % 2147483648 / 8388608 = 255
  · have d1 : (a % 2147483648 / 8388608 == 255) = true := by simpa using c1
    by_cases c2 : a % 8388608 = 0
    · have d2 : (a % 8388608 == 0) = true := by simpa using c2
      have E := of_val a (0) (0) false true (isNone_f (by omega)) (isInf_t (by omega)) (if_neg (by omega)) (if_neg (by omega))
      rw [E]
      clear E c1 c2
      go_enter Try.func63, Try.ntmps63
      go_wp2
      refine bodyPost_ret (v := .agg #[.bool false, .bool true, .bool (isNeg a), .int .i64 (0), .int .i64 (0)]) (by simp [results, Try.results63, go_sem, isNeg]) rfl ⟨rfl, ?_⟩
      exact ((Below.refl _ _).alloc (Nat.le_refl _) _).alloc (by simp) _
    · have d2 : (a % 8388608 == 0) = false := by simpa using c2
      have E := of_val a (0) (0) true false (isNone_t (by omega)) (isInf_f (by omega)) (if_neg (by omega)) (if_neg (by omega))
      rw [E]
      clear E c1 c2
      go_enter Try.func63, Try.ntmps63
      go_wp2
      refine bodyPost_ret (v := .agg #[.bool true, .bool false, .bool (isNeg a), .int .i64 (0), .int .i64 (0)]) (by simp [results, Try.results63, go_sem, isNeg]) rfl ⟨rfl, ?_⟩
      exact ((Below.refl _ _).alloc (Nat.le_refl _) _).alloc (by simp) _
  · have d1 : (a % 2147483648 / 8388608 == 255) = false := by simpa using c1
    by_cases c3 : a % 2147483648 / 8388608 = 0
    · have d3 : (a % 2147483648 / 8388608 == 0) = true := by simpa using c3
      have E := of_val a (a % 8388608) (-149) false false (isNone_f (by omega)) (isInf_f (by omega)) (by unfold ofM manI; rw [if_pos (by omega), if_pos (by omega)]; omega) (by unfold ofE exI; rw [if_pos (by omega), if_pos (by omega)])
      rw [E]
      clear E c1 c3
      go_enter Try.func63, Try.ntmps63
      go_wp2
      refine bodyPost_ret (v := .agg #[.bool false, .bool false, .bool (isNeg a), .int .i64 (a % 8388608), .int .i64 (-149)]) (by simp [results, Try.results63, go_sem, isNeg]) rfl ⟨rfl, ?_⟩
      exact ((Below.refl _ _).alloc (Nat.le_refl _) _).alloc (by simp) _
    · have d3 : (a % 2147483648 / 8388608 == 0) = false := by simpa using c3
      have E := of_val a (8388608 + a % 8388608) (a % 2147483648 / 8388608 - 150) false false (isNone_f (by omega)) (isInf_f (by omega)) (by unfold ofM manI; rw [if_pos (by omega), if_neg (by omega)]; omega) (by unfold ofE exI; rw [if_pos (by omega), if_neg (by omega)])
      rw [E]
      clear E c1 c3
      go_enter Try.func63, Try.ntmps63
      go_wp2
      refine bodyPost_ret (v := .agg #[.bool false, .bool false, .bool (isNeg a), .int .i64 (8388608 + a % 8388608), .int .i64 (a % 2147483648 / 8388608 - 150)]) (by simp [results, Try.results63, go_sem, isNeg]) rfl ⟨rfl, ?_⟩
      exact ((Below.refl _ _).alloc (Nat.le_refl _) _).alloc (by simp) _

theorem pow_bd (m : Int) (j n : Nat) (h0 : 0 ≤ m) (hj : j ≤ n) : 0 ≤ m * 2 ^ j ∧ m * 2 ^ j ≤ m * 2 ^ n := by
  have h1 : (2 : Int) ^ j ≤ 2 ^ n := by rw [pow_cast, pow_cast]; have := Nat.pow_le_pow_right (n := 2) (by decide) hj; omega
  have h2 : (0 : Int) ≤ 2 ^ j := by rw [pow_cast]; exact Int.natCast_nonneg _
  exact ⟨Int.mul_nonneg h0 h2, Int.mul_le_mul_of_nonneg_left h1 h0⟩
theorem pow_next (m : Int) (j : Nat) : 2 * (m * 2 ^ j) = m * 2 ^ (j + 1) := by
  rw [show (2 : Int) ^ (j + 1) = 2 ^ j * 2 from rfl, ← Int.mul_assoc m]; omega
set_option maxHeartbeats 1000000 in
theorem rshifted_any (m k : Int) (w : World) (h0 : 0 ≤ m) (h1 : m ≤ 16777216) (k0 : 0 ≤ k) (k1 : k ≤ 37) :
    Calls Try.prog 73 #[.int .i64 m, .int .i64 k] w fun e w' => e = .returned (.int .i64 (m * 2 ^ k.toNat)) ∧ w' = w := by
  go_enter Try.func73, Try.ntmps73
  go_wp2
  go_loop [0, 1] (fun mv kv => ∃ (j : Nat) (c P : Int), mv = .int .i64 P ∧ kv = .int .i64 c ∧ 0 ≤ c ∧ c ≤ 37 ∧ Hid (c + j = k) ∧ Hid (P = m * 2 ^ j)) (fun _ kv => (intOf kv).toNat)
  case atStart => exact ⟨0, k, m, rfl, rfl, k0, k1, by show k + 0 = k; omega, by show m = m * 2 ^ 0; simp⟩
  case round =>
    obtain ⟨j, c, P, rfl, rfl, c0, c1, hj, hP⟩ := hrel
    by_cases hc : 0 < c
    · have hb := pow_bd m j 36 h0 (by have := hj.out; omega)
      have hq : 0 ≤ P ∧ P ≤ 1152921504606846976 := by rw [hP.out]; omega
      have hn : Hid (2 * P = m * 2 ^ (j + 1)) := by have := pow_next m j; rw [← hP.out] at this; exact this
      clear hb hP
      go_wp2
      go_round
      case rel => exact ⟨j + 1, c - 1, 2 * P, rfl, rfl, by omega, by omega, by have := hj.out; show c - 1 + ((j + 1 : Nat) : Int) = k; omega, hn⟩
      case measure => simp [intOf]; omega
    · have hr : Hid (P = m * 2 ^ k.toNat) := by
        have := hP.out; have := hj.out
        rw [show k.toNat = j from by omega]; assumption
      clear hP
      go_wp2
      go_ret
      refine ⟨congrArg Ending.returned (congrArg (Value.int IntKind.i64) ?_), rfl⟩
      exact hr.out
theorem bcell {W w1 : World} (hb : Below W.heap.size W w1) : (∀ b o, b < W.heap.size → w1.cell? ⟨b, o, none⟩ = W.cell? ⟨b, o, none⟩) ∧ (∀ b o, b < W.heap.size → w1.frozen? ⟨b, o, none⟩ = W.frozen? ⟨b, o, none⟩) :=
  ⟨fun b o h => hb.cell (p := ⟨b, o, none⟩) h, fun b o h => hb.frozen (p := ⟨b, o, none⟩) h⟩
theorem exZ_far (a b gap : Int) (h : ¬ gap ≤ 37) : exZ a b gap = if 0 < b then 16 * a + 1 else if b < 0 then 16 * a - 1 else a := by unfold exZ; rw [if_neg h]
theorem exF_far (b ex ey : Int) (h : ¬ ex - ey ≤ 37) : exF b ex ey = if b = 0 then ex else ex - 4 := by unfold exF; rw [if_neg h]
theorem exZ_near (a b gap : Int) (h : gap ≤ 37) : exZ a b gap = 2 ^ gap.toNat * a + b := by unfold exZ; rw [if_pos h]
theorem exF_near (b ex ey : Int) (h : ex - ey ≤ 37) : exF b ex ey = ey := by unfold exF; rw [if_pos h]
theorem bel2 (w : World) (o p : Obj) (n : Nat) : Below w.heap.size w (((w.alloc o).alloc p).drewN n) := below_drewN (((Below.refl _ _).alloc (Nat.le_refl _) _).alloc (by simp) _) n
end Go.Proofs.Ytkncmjnakjkndaa
