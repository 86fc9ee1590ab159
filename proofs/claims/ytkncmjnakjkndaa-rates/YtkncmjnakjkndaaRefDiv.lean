/-
  What tutorref.Div answers: the same as soft.Div. Conditions: the patterns are 0 to 2^32 - 1.
-/
import Derived.Test.YtkncmjnakjkndaaRefDivA
namespace Go.Proofs.Ytkncmjnakjkndaa
open Go.RowKit
set_option linter.unusedVariables false
set_option linter.unusedSimpArgs false
theorem short_ok (a : Int) (h : manI a ≠ 0) : 8388608 ≤ manI a * 2 ^ shortI a ∧ manI a * 2 ^ shortI a < 16777216 ∧ shortI a ≤ 24 := by
  have hm := manI_bd a
  have hb := bl_man a
  obtain ⟨n, hn⟩ : ∃ n : Nat, manI a = n := ⟨(manI a).toNat, by omega⟩
  have e : (n : Int) * 2 ^ shortI a = ((n * 2 ^ shortI a : Nat) : Int) := by push_cast; rfl
  have hs : shortI a = 24 - bl n := by unfold shortI; rw [hn, Int.toNat_natCast]
  rw [hn, Int.toNat_natCast] at hb
  have h1 := bl_lt n
  have h2 := bl_le n (by omega)
  rw [hn, e]
  have hp := pow_pos' (shortI a)
  have a1 := Nat.mul_lt_mul_of_pos_right h1 hp
  have a2 := Nat.mul_le_mul_right (2 ^ shortI a) h2
  rw [← Nat.pow_add] at a1 a2
  have hbl : bl n ≠ 0 := by unfold bl; split <;> omega
  rw [show bl n + shortI a = 24 from by omega] at a1
  rw [show bl n - 1 + shortI a = 23 from by omega] at a2
  omega
def DQ' (a b : Int) : Int :=
  RI (2 * (manI a * 2 ^ shortI a * 68719476736 / (manI b * 2 ^ shortI b)) + if manI a * 2 ^ shortI a * 68719476736 % (manI b * 2 ^ shortI b) = 0 then 0 else 1) (exI a - shortI a - (exI b - shortI b) - 37)
set_option maxHeartbeats 2000000 in
theorem rdiv_9 (a b : Int) (w : World) (h0 : 0 ≤ a) (h1 : a < 4294967296) (g0 : 0 ≤ b) (g1 : b < 4294967296) (na : isNone a = false) (nb : isNone b = false) (ia : isInf a = false) (ib : isInf b = false)
    (fa : a % 2147483648 < 2139095040) (fb : b % 2147483648 < 2139095040) (ma : manI a ≠ 0) (mb : manI b ≠ 0) :
    Calls Try.prog 24 #[.int .i64 a, .int .i64 b] w fun e w' => e = .returned (.int .i64 (DQ' a b + sg (isNeg a != isNeg b))) ∧ Below w.heap.size w w' := by
  have E1 := ofM_fin a fa
  have E2 := ofE_fin a fa
  have E3 := ofM_fin b fb
  have E4 := ofE_fin b fb
  have xa := exI_bd a
  have xb := exI_bd b
  have m1 := manI_bd a
  have m2 := manI_bd b
  have da : (manI a == 0) = false := by simpa using ma
  have db : (manI b == 0) = false := by simpa using mb
  obtain ⟨ua1, ua2, ua3⟩ := short_ok a ma
  obtain ⟨ub1, ub2, ub3⟩ := short_ok b mb
  have pa : 0 < manI a := by omega
  have pb : 0 < manI b := by omega
  unfold DQ'
  obtain ⟨N1, hN1⟩ : ∃ N, N = manI a * 2 ^ shortI a := ⟨_, rfl⟩
  obtain ⟨N2, hN2⟩ : ∃ N, N = manI b * 2 ^ shortI b := ⟨_, rfl⟩
  have UA1 : Hid _ := ua1
  have UA2 : Hid _ := ua2
  have UB1 : Hid _ := ub1
  have UB2 : Hid _ := ub2
  rw [← hN1] at ua1 ua2
  rw [← hN2] at ub1 ub2
  rw [← hN1, ← hN2]
  have R1 : manI a * 2 ^ shortI a = N1 := hN1.symm
  have R2 : manI b * 2 ^ shortI b = N2 := hN2.symm
  clear hN1 hN2 fa fb ma mb
  have q0 : 0 ≤ N1 * 68719476736 / N2 := Int.ediv_nonneg (by omega) (by omega)
  have q1 : N1 * 68719476736 / N2 ≤ N1 * 68719476736 := Int.ediv_le_self _ (by omega)
  have t1 : (N1 * 68719476736).tdiv N2 = N1 * 68719476736 / N2 := Int.tdiv_eq_ediv_of_nonneg (by omega)
  have t2 : (N1 * 68719476736).tmod N2 = N1 * 68719476736 % N2 := Int.tmod_eq_emod_of_nonneg (by omega)
  have np : 0 < N2 := by omega
  go_enter Try.func24, Try.ntmps24
  go_wp2_with fail
  refine (of_any _ _ h0 h1).mono ?_
  rintro e w1 ⟨rfl, hb1⟩
  unfold numV
  have s1 := hb1.size
  have HB1 : Hid _ := hb1
  clear hb1
  go_wp2_with fail
  refine (of_any _ _ g0 g1).mono ?_
  rintro e w2 ⟨rfl, hb2⟩
  unfold numV
  have X := (Box.new w1 _ _ _ _ _).keep hb2 (by simp)
  have HB2 : Hid _ := hb2
  have HX : Hid _ := X
  obtain ⟨x0, x1, x2, x3, x4, f0, f1, f2, f3, f4, s2⟩ := X
  clear hb2
  have t2' := s2
  go_wp2_with fail
  refine (full_any _ _ _ _ _ (shortI a) _ pa m1.2 UA1.out UA2.out xa.1 xa.2 ua3).mono ?_
  rintro e w3 ⟨rfl, hb3⟩
  have X := (HX.out.alloc _).keep hb3 (by rw [World.size_alloc]; have := HX.out.lt; omega)
  have Y := (Box.new w2 _ _ _ _ _).keep hb3 (by simp)
  have HB3 : Hid _ := hb3
  have HX3 : Hid _ := X
  have HY3 : Hid _ := Y
  clear hb3 x0 x1 x2 x3 x4 f0 f1 f2 f3 f4 s2 HX
  obtain ⟨x0, x1, x2, x3, x4, f0, f1, f2, f3, f4, s2⟩ := X
  obtain ⟨y0, y1, y2, y3, y4, k0, k1, k2, k3, k4, s3⟩ := Y
  have hne : w1.heap.size ≠ w2.heap.size := by omega
  go_wp2_with fail
  refine (full_any _ _ _ _ _ (shortI b) _ pb m2.2 UB1.out UB2.out xb.1 xb.2 ub3).mono ?_
  rintro e w4 ⟨rfl, hb4⟩
  have X := HX3.out.put (.bool false) (.bool false) (.bool (isNeg a)) (.int .i64 N1) (.int .i64 (exI a - shortI a))
  have Y := HY3.out.putOther hne (.bool false) (.bool false) (.bool (isNeg a)) (.int .i64 N1) (.int .i64 (exI a - shortI a))
  have B3 : Hid (Below w1.heap.size w3 _) := put5_below (.bool false) (.bool false) (.bool (isNeg a)) (.int .i64 N1) (.int .i64 (exI a - shortI a)) (Nat.le_refl _)
  have l3 := HX3.out.lt
  have l3' := HY3.out.lt
  have X := X.keep hb4 (by simp [World.size_setCell]; omega)
  have Y := Y.keep hb4 (by simp [World.size_setCell]; omega)
  have HB4 : Hid _ := hb4
  clear hb4 x0 x1 x2 x3 x4 f0 f1 f2 f3 f4 s2 HX3 HY3 l3 l3' y0 y1 y2 y3 y4 k0 k1 k2 k3 k4 s3
  obtain ⟨x0, x1, x2, x3, x4, f0, f1, f2, f3, f4, s2⟩ := X
  obtain ⟨y0, y1, y2, y3, y4, k0, k1, k2, k3, k4, s4⟩ := Y
  have BB : Hid (Below w.heap.size w (put5 w4 w2.heap.size (.bool false) (.bool false) (.bool (isNeg b)) (.int .i64 N2) (.int .i64 (exI b - shortI b)))) := by
    have b1 := HB1.out.alloc s1 (.cells #[Value.bool false, Value.bool false, Value.bool (isNeg a), Value.int IntKind.i64 (manI a), Value.int IntKind.i64 (exI a)] 71)
    have b2 := (b1.trans (HB2.out.mono (by rw [World.size_alloc]; omega))).alloc (by omega) (.cells #[Value.bool false, Value.bool false, Value.bool (isNeg b), Value.int IntKind.i64 (manI b), Value.int IntKind.i64 (exI b)] 71)
    have b3 := b2.trans (HB3.out.mono (by rw [World.size_alloc]; omega))
    have b4 := b3.trans (B3.out.mono (by omega))
    have b5 := b4.trans (HB4.out.mono (by simp [World.size_setCell]; have := b3.size; omega))
    exact b5.trans (put5_below _ _ _ _ _ (by omega))
  clear HB1 HB2 HB3 HB4 B3
  cases hrr : (N1 * 68719476736 % N2 != 0)
  · have hz : N1 * 68719476736 % N2 = 0 := by simpa using hrr
    have HZ : Hid _ := hz
    clear hz
    go_wp2_with (first | (go_at_call 73; refine (rshifted_any _ _ _ (by omega) (by omega) (by omega) (by omega)).mono ?_; rintro e w' ⟨rfl, rfl⟩) | (go_at_call 65; refine (round_any _ _ _ _ (by omega) (by omega) (by omega) (by omega)).mono ?_; rintro e w' ⟨rfl, rfl⟩))
    go_ret
    refine ⟨congrArg Ending.returned (congrArg (Value.int IntKind.i64) ?_), BB.out⟩
    rfl
  · have hz : ¬ N1 * 68719476736 % N2 = 0 := by simpa using hrr
    have HZ : Hid _ := hz
    clear hz
    go_wp2_with (first | (go_at_call 73; refine (rshifted_any _ _ _ (by omega) (by omega) (by omega) (by omega)).mono ?_; rintro e w' ⟨rfl, rfl⟩) | (go_at_call 65; refine (round_any _ _ _ _ (by omega) (by omega) (by omega) (by omega)).mono ?_; rintro e w' ⟨rfl, rfl⟩))
    go_ret
    refine ⟨congrArg Ending.returned (congrArg (Value.int IntKind.i64) ?_), BB.out⟩
    rfl
theorem stick_N (q r : Nat) : stick (q : Int) (r : Int) = (stickN q r : Nat) := by
  unfold stick stickN
  by_cases h : r = 0
  · rw [if_pos (by omega), if_pos h]
  · rw [if_neg (by omega), if_neg h]
    by_cases g : q % 2 = 0
    · rw [if_pos (by omega), if_pos g]; omega
    · rw [if_neg (by omega), if_neg g]
theorem mul_pow_cast (n u : Nat) : (n : Int) * 2 ^ u = ((n * 2 ^ u : Nat) : Int) := by push_cast; rfl
/-- both ways to a quotient come to one pattern -/
theorem DQ_same (a b : Int) (ma : manI a ≠ 0) (mb : manI b ≠ 0) : DQ' a b = DQ a b := by
  have m1 := manI_bd a
  have m2 := manI_bd b
  have xa := exI_bd a
  have xb := exI_bd b
  have hu := upI_bd a
  have ht := topI_bd a ma
  obtain ⟨a1, a2, a3⟩ := short_ok a ma
  obtain ⟨b1, b2, b3⟩ := short_ok b mb
  obtain ⟨A, hA⟩ : ∃ A : Nat, manI a = A := ⟨(manI a).toNat, by omega⟩
  obtain ⟨B, hB⟩ : ∃ B : Nat, manI b = B := ⟨(manI b).toNat, by omega⟩
  unfold DQ' DQ
  unfold topI at ht ⊢
  rw [hA] at a1 a2 ht m1
  rw [hB] at b1 b2 m2
  rw [hA, hB]
  rw [hA] at ma
  rw [hB] at mb
  rw [mul_pow_cast] at a1 a2 b1 b2
  rw [mul_pow_cast, mul_pow_cast, mul_pow_cast]
  rw [mul_pow_cast] at ht
  have hBp : 0 < B := by omega
  have k1 := div_one A B (upI a).toNat (exI a - upI a - exI b + 1000).toNat (exI a - exI b + 1000).toNat hBp (by
    rw [Nat.le_div_iff_mul_le hBp]
    refine Nat.le_trans (Nat.mul_le_mul_left _ (show B ≤ 16777216 by omega)) ?_
    omega) (by omega)
  have k2 := div_two A B (shortI a) (shortI b) (exI a - shortI a - (exI b - shortI b) - 37 + 1000).toNat (exI a - exI b + 1000).toNat hBp (by omega) (by omega) (by omega)
  have key := Rf_unique (mul_mono hBp) k2 k1
  unfold RI RR
  have e1 : stick (((A * 2 ^ (upI a).toNat : Nat) : Int) / (B : Int)) (((A * 2 ^ (upI a).toNat : Nat) : Int) % (B : Int)) = ((stickN (A * 2 ^ (upI a).toNat / B) (A * 2 ^ (upI a).toNat % B) : Nat) : Int) := by
    rw [← stick_N]; rfl
  rw [e1, Int.toNat_natCast, ← key]
  have e2 : (2 * (((A * 2 ^ shortI a : Nat) : Int) * 68719476736 / ((B * 2 ^ shortI b : Nat) : Int)) + if ((A * 2 ^ shortI a : Nat) : Int) * 68719476736 % ((B * 2 ^ shortI b : Nat) : Int) = 0 then 0 else 1).toNat =
      2 * (A * 2 ^ shortI a * 2 ^ 36 / (B * 2 ^ shortI b)) + if A * 2 ^ shortI a * 2 ^ 36 % (B * 2 ^ shortI b) = 0 then 0 else 1 := by
    rw [show (68719476736 : Int) = ((2 ^ 36 : Nat) : Int) from rfl, ← Int.natCast_mul, ← Int.natCast_ediv, ← Int.natCast_emod]
    generalize A * 2 ^ shortI a * 2 ^ 36 / (B * 2 ^ shortI b) = q
    generalize A * 2 ^ shortI a * 2 ^ 36 % (B * 2 ^ shortI b) = r
    split
    · rw [if_pos (by omega)]; omega
    · rw [if_neg (by omega)]; omega
  rw [e2]
theorem rdiv_any (a b : Int) (w : World) (h0 : 0 ≤ a) (h1 : a < 4294967296) (g0 : 0 ≤ b) (g1 : b < 4294967296) :
    Calls Try.prog 24 #[.int .i64 a, .int .i64 b] w fun e w' => e = .returned (.int .i64 (DIV a b)) ∧ Below w.heap.size w w' := by
  unfold DIV
  rw [sgn2_sg a b h0 h1 g0 g1, Int.add_comm (sg _) 2139095040, Int.add_comm (sg _) (DQ _ _)]
  cases na : isNone a
  · cases nb : isNone b
    · rw [if_neg (by simp)]
      cases ia : isInf a
      · rw [if_neg (by simp)]
        have hma := nil_man a na ia
        cases ib : isInf b
        · have hmb := nil_man b nb ib
          have n1 : ¬ 2139095040 < a % 2147483648 := by unfold isNone at na; simpa using na
          have n2 : ¬ 2139095040 < b % 2147483648 := by unfold isNone at nb; simpa using nb
          have i1 : ¬ a % 2147483648 = 2139095040 := by unfold isInf at ia; simpa using ia
          have i2 : ¬ b % 2147483648 = 2139095040 := by unfold isInf at ib; simpa using ib
          cases lb : isNil b
          · rw [if_neg (by simp)]
            rw [lb] at hmb
            cases la : isNil a
            · rw [if_neg (by simp)]
              have m1 := man_of_nil la na
              have m2 := man_of_nil lb nb
              rw [← DQ_same a b m1 m2]
              exact rdiv_9 a b w h0 h1 g0 g1 na nb ia ib (by omega) (by omega) m1 m2
            · rw [la] at hma; rw [if_pos (by simp)]; exact rdiv_8 a b w h0 h1 g0 g1 na nb ia ib hma hmb
          · rw [if_pos rfl]
            rw [lb] at hmb
            cases la : isNil a
            · rw [la] at hma; rw [if_neg (by simp)]; exact rdiv_6 a b w h0 h1 g0 g1 na nb ia ib hma hmb
            · rw [la] at hma; rw [if_pos rfl]; exact rdiv_5 a b w h0 h1 g0 g1 na nb ia ib hma hmb
        · rw [inf_not_nil ib, if_neg (by simp), if_pos (by simp)]
          cases la : isNil a
          · rw [la] at hma; exact rdiv_7b a b w h0 h1 g0 g1 na nb ia ib hma
          · rw [la] at hma; exact rdiv_7a a b w h0 h1 g0 g1 na nb ia ib hma
      · rw [if_pos rfl]
        cases ib : isInf b
        · have hmb := nil_man b nb ib
          rw [if_neg (by simp)]
          cases lb : isNil b
          · rw [lb] at hmb; exact rdiv_4b a b w h0 h1 g0 g1 na nb ia ib hmb
          · rw [lb] at hmb; exact rdiv_4a a b w h0 h1 g0 g1 na nb ia ib hmb
        · rw [if_pos rfl]; exact rdiv_3 a b w h0 h1 g0 g1 na nb ia ib
    · rw [if_pos (by simp)]
      have ib := none_not_inf nb
      have eb := none_man nb
      cases ia : isInf a
      · cases hm : (ofM a == 0)
        · exact rdiv_2c a b w h0 h1 g0 g1 na nb ib eb ia hm
        · exact rdiv_2b a b w h0 h1 g0 g1 na nb ib eb ia hm
      · exact rdiv_2a a b w h0 h1 g0 g1 na nb ib eb ia
  · rw [if_pos (by simp)]
    have ia := none_not_inf na
    have ea := none_man na
    cases ib : isInf b
    · cases hm : (ofM b == 0)
      · exact rdiv_1c a b w h0 h1 g0 g1 na ia ea ib hm
      · exact rdiv_1b a b w h0 h1 g0 g1 na ia ea ib hm
    · exact rdiv_1a a b w h0 h1 g0 g1 na ia ea ib
theorem MUL_bdQ (a b : Int) : 0 ≤ MUL a b ∧ MUL a b < 4294967296 := by
  have h1 := sgn2_or a b
  have h2 := RI_bd (manI a * manI b) (exI a + exI b)
  unfold MUL
  split
  · omega
  · split
    · split <;> omega
    · split
      · split <;> omega
      · omega
theorem DIV_bdQ (a b : Int) : 0 ≤ DIV a b ∧ DIV a b < 4294967296 := by
  have h1 := sgn2_or a b
  have h2 : 0 ≤ DQ a b ∧ DQ a b ≤ 2139095040 := RI_bd _ _
  unfold DIV
  split
  · omega
  · split
    · split <;> omega
    · split
      · split <;> omega
      · split <;> omega
end Go.Proofs.Ytkncmjnakjkndaa
