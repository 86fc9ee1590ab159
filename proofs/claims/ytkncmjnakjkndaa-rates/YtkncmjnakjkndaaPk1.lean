/-
  Mix, of the program and of the document, and 'is n from lo to hi', as they are walked. Conditions: the numbers are some that may be (0 to 2^32 - 1).
-/
import Derived.Test.YtkncmjnakjkndaaSoft
import Derived.Test.YtkncmjnakjkndaaPkM
namespace Go.Proofs.Ytkncmjnakjkndaa
open Go.RowKit
set_option linter.unusedVariables false
set_option linter.unusedSimpArgs false
def inB (n lo hi : Int) : Bool := decide (lo ≤ n ∧ n ≤ hi)
theorem inB_t {n lo hi : Int} (h : lo ≤ n ∧ n ≤ hi) : inB n lo hi = true := by simpa [inB] using h
theorem inB_f {n lo hi : Int} (h : ¬ (lo ≤ n ∧ n ≤ hi)) : inB n lo hi = false := by simpa [inB] using h
set_option maxHeartbeats 400000 in
theorem within_any (n lo hi : Int) (w : World) :
    Calls Try.prog 111 #[.int .i64 n, .int .i64 lo, .int .i64 hi] w fun e w' => e = .returned (.bool (inB n lo hi)) ∧ w' = w := by
  by_cases h : lo ≤ n
  · go_enter Try.func111, Try.ntmps111
    go_wp2
    go_ret
    refine ⟨ret_bool ?_, rfl⟩
    unfold inB; rw [Bool.eq_iff_iff]; simp; omega
  · rw [inB_f (by omega)]
    go_enter Try.func111, Try.ntmps111
    go_wp2
    go_ret
    exact ⟨rfl, rfl⟩
set_option maxHeartbeats 400000 in
theorem rin_any (n lo hi : Int) (w : World) :
    Calls Try.prog 113 #[.int .i64 n, .int .i64 lo, .int .i64 hi] w fun e w' => e = .returned (.bool (inB n lo hi)) ∧ w' = w := by
  by_cases h : lo ≤ n
  · go_enter Try.func113, Try.ntmps113
    go_wp2
    go_ret
    refine ⟨ret_bool ?_, rfl⟩
    unfold inB; rw [Bool.eq_iff_iff]; simp; omega
  · rw [inB_f (by omega)]
    go_enter Try.func113, Try.ntmps113
    go_wp2
    go_ret
    exact ⟨rfl, rfl⟩
theorem u32_xor (a b : Int) (h0 : 0 ≤ a) (h1 : a < 4294967296) (h2 : 0 ≤ b) (h3 : b < 4294967296) : bits .xor .u32 a b = XR a b := by
  obtain ⟨a, rfl⟩ : ∃ x : Nat, a = x := ⟨a.toNat, by omega⟩
  obtain ⟨b, rfl⟩ : ∃ x : Nat, b = x := ⟨b.toNat, by omega⟩
  rw [u32_xor_nat a b (by omega) (by omega)]
  simp [XR]
theorem i64_xor (a b : Int) (h0 : 0 ≤ a) (h1 : a < 4294967296) (h2 : 0 ≤ b) (h3 : b < 4294967296) : bits .xor .i64 a b = XR a b := by
  obtain ⟨a, rfl⟩ : ∃ x : Nat, a = x := ⟨a.toNat, by omega⟩
  obtain ⟨b, rfl⟩ : ∃ x : Nat, b = x := ⟨b.toNat, by omega⟩
  have hx : a ^^^ b < 2 ^ 32 := Nat.xor_lt_two_pow (by omega) (by omega)
  show IntKind.i64.wrap ((BitVec.ofInt 64 (a : Int) ^^^ BitVec.ofInt 64 (b : Int)).toNat : Int) = _
  rw [BitVec.toNat_xor, ofInt_u64 a (by omega), ofInt_u64 b (by omega)]
  simp [IntKind.wrap, IntKind.bits, IntKind.signed, XR]
  omega
set_option maxHeartbeats 400000 in
theorem rxor_any (u v : Int) (w : World) (h0 : 0 ≤ u) (h1 : u < 4294967296) (h2 : 0 ≤ v) (h3 : v < 4294967296) :
    Calls Try.prog 140 #[.int .i64 u, .int .i64 v] w fun e w' => e = .returned (.int .i64 (XR u v)) ∧ w' = w := by
  have HE : Hid _ := i64_xor u v h0 h1 h2 h3
  go_enter Try.func140, Try.ntmps140
  go_wp2
  go_ret
  exact ⟨ret_int HE.out, rfl⟩
set_option maxHeartbeats 400000 in
theorem times_any (a b : Int) (w : World) (h0 : 0 ≤ a) (h1 : a < 4294967296) (h2 : 0 ≤ b) (h3 : b < 4294967296) :
    Calls Try.prog 141 #[.int .i64 a, .int .i64 b] w fun e w' => e = .returned (.int .i64 (TM a b)) ∧ w' = w := by
  have HE : Hid _ := times_eq a b h0 h1 h2 h3
  obtain ⟨p, hp⟩ : ∃ p, p = a / 65536 * b := ⟨_, rfl⟩
  obtain ⟨q, hq⟩ : ∃ q, q = a % 65536 * b := ⟨_, rfl⟩
  have p0 : 0 ≤ p := by rw [hp]; exact Int.mul_nonneg (by omega) h2
  have q0 : 0 ≤ q := by rw [hq]; exact Int.mul_nonneg (by omega) h2
  have p1 : p ≤ 65536 * 4294967296 := by rw [hp]; exact Int.mul_le_mul (by omega) (by omega) h2 (by omega)
  have q1 : q ≤ 65536 * 4294967296 := by rw [hq]; exact Int.mul_le_mul (by omega) (by omega) h2 (by omega)
  have HP : Hid _ := hp
  have HQ : Hid _ := hq
  have hp' := hp.symm
  have hq' := hq.symm
  clear hp hq
  go_enter Try.func141, Try.ntmps141
  go_wp2
  go_ret
  refine ⟨ret_int ?_, rfl⟩
  rw [← HE.out, ← HP.out, ← HQ.out]
set_option maxHeartbeats 400000 in
theorem rmix_any (x : Int) (w : World) (h0 : 0 ≤ x) (h1 : x < 4294967296) :
    Calls Try.prog 114 #[.int .i64 x] w fun e w' => e = .returned (.int .i64 (MIX x)) ∧ w' = w := by
  obtain ⟨a, ha⟩ : ∃ a, a = XR x (x / 65536) := ⟨_, rfl⟩
  have a1 := XR_bd x (x / 65536) h0 h1 (by omega) (by omega)
  obtain ⟨b, hb⟩ : ∃ b, b = TM a 2246822507 := ⟨_, rfl⟩
  have b1 := TM_bd a 2246822507
  obtain ⟨c, hc⟩ : ∃ c, c = XR b (b / 8192) := ⟨_, rfl⟩
  rw [← ha] at a1
  rw [← hb] at b1
  have c1 := XR_bd b (b / 8192) b1.1 b1.2 (by omega) (by omega)
  obtain ⟨d, hd⟩ : ∃ d, d = TM c 3266489909 := ⟨_, rfl⟩
  have d1 := TM_bd c 3266489909
  rw [← hc] at c1
  rw [← hd] at d1
  have HE : Hid (MIX x = XR d (d / 65536)) := by show MIX x = _; rw [hd, hc, hb, ha]; rfl
  obtain ⟨a10, a11⟩ := a1
  obtain ⟨b10, b11⟩ := b1
  obtain ⟨c10, c11⟩ := c1
  obtain ⟨d10, d11⟩ := d1
  have A := ha.symm
  have B := hb.symm
  have C := hc.symm
  have D := hd.symm
  clear ha hb hc hd
  go_enter Try.func114, Try.ntmps114
  go_wp2_with (first | (go_at_call 140; refine (rxor_any _ _ _ (by omega) (by omega) (by omega) (by omega)).mono ?_; rintro e w' ⟨rfl, rfl⟩; first | rw [A] | rw [C] | skip) | (go_at_call 141; refine (times_any _ _ _ (by omega) (by omega) (by omega) (by omega)).mono ?_; rintro e w' ⟨rfl, rfl⟩; first | rw [B] | rw [D]))
  go_ret
  exact ⟨ret_int HE.out.symm, rfl⟩
set_option maxHeartbeats 400000 in
theorem mix_any (x : Int) (w : World) (h0 : 0 ≤ x) (h1 : x < 4294967296) :
    Calls Try.prog 139 #[.int .u32 x] w fun e w' => e = .returned (.int .u32 (MIX x)) ∧ w' = w := by
  obtain ⟨a, ha⟩ : ∃ a, a = XR x (x / 65536) := ⟨_, rfl⟩
  have a1 := XR_bd x (x / 65536) h0 h1 (by omega) (by omega)
  obtain ⟨b, hb⟩ : ∃ b, b = TM a 2246822507 := ⟨_, rfl⟩
  have b1 := TM_bd a 2246822507
  obtain ⟨c, hc⟩ : ∃ c, c = XR b (b / 8192) := ⟨_, rfl⟩
  rw [← ha] at a1
  rw [← hb] at b1
  have c1 := XR_bd b (b / 8192) b1.1 b1.2 (by omega) (by omega)
  obtain ⟨d, hd⟩ : ∃ d, d = TM c 3266489909 := ⟨_, rfl⟩
  have d1 := TM_bd c 3266489909
  rw [← hc] at c1
  rw [← hd] at d1
  have HE : Hid (MIX x = XR d (d / 65536)) := by show MIX x = _; rw [hd, hc, hb, ha]; rfl
  have A : bits .xor .u32 x (x / 65536) = a := (u32_xor _ _ h0 h1 (by omega) (by omega)).trans ha.symm
  have B : a * 2246822507 % 4294967296 = b := hb.symm
  have C : bits .xor .u32 b (b / 8192) = c := (u32_xor _ _ b1.1 b1.2 (by omega) (by omega)).trans hc.symm
  have D : c * 3266489909 % 4294967296 = d := hd.symm
  have E : Hid (bits .xor .u32 d (d / 65536) = XR d (d / 65536)) := u32_xor _ _ d1.1 d1.2 (by omega) (by omega)
  clear ha hb hc hd
  go_enter Try.func139, Try.ntmps139
  go_wp2
  go_ret
  exact ⟨ret_int (E.out.trans HE.out.symm), rfl⟩
end Go.Proofs.Ytkncmjnakjkndaa
