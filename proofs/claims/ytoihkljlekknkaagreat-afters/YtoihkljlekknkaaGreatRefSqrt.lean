/-
  What tutorref.Sqrt answers: the same as soft.Sqrt. Conditions: the pattern is 0 to 2^32 - 1.
-/
import Derived.Test.YtoihkljlekknkaaGreatInts
namespace Go.Proofs.YtoihkljlekknkaaGreat
open Go.RowKit
set_option linter.unusedVariables false
set_option linter.unusedSimpArgs false
set_option maxHeartbeats 1000000 in
theorem rsqrt_1 (a : Int) (w : World) (h0 : 0 ≤ a) (h1 : a < 4294967296) (na : isNone a = true) :
 Calls Tryz.prog 47 #[.int .i64 a] w fun e w' => e = .returned (.int .i64 2143289344) ∧ Below w.heap.size w w' := by
 go_enter Tryz.func47, Tryz.ntmps47
 go_wp2_with fail
 refine (of_any _ _ h0 h1).mono ?_
 rintro e w1 ⟨rfl, hb1⟩
 unfold numV
 have s1 := hb1.size
 have HB1 : Hid _ := hb1
 clear hb1
 go_wp2_with fail
 go_ret
 exact ⟨rfl, HB1.out.alloc s1 _⟩
set_option maxHeartbeats 1000000 in
theorem rsqrt_2 (a : Int) (w : World) (h0 : 0 ≤ a) (h1 : a < 4294967296) (na : isNone a = false) (sa : isNeg a = true) (ia : isInf a = true) :
 Calls Tryz.prog 47 #[.int .i64 a] w fun e w' => e = .returned (.int .i64 2143289344) ∧ Below w.heap.size w w' := by
 go_enter Tryz.func47, Tryz.ntmps47
 go_wp2_with fail
 refine (of_any _ _ h0 h1).mono ?_
 rintro e w1 ⟨rfl, hb1⟩
 unfold numV
 have s1 := hb1.size
 have HB1 : Hid _ := hb1
 clear hb1
 go_wp2_with fail
 go_ret
 exact ⟨rfl, HB1.out.alloc s1 _⟩
set_option maxHeartbeats 1000000 in
theorem rsqrt_3 (a : Int) (w : World) (h0 : 0 ≤ a) (h1 : a < 4294967296) (na : isNone a = false) (sa : isNeg a = true) (ia : isInf a = false) (hp : 0 < ofM a) :
 Calls Tryz.prog 47 #[.int .i64 a] w fun e w' => e = .returned (.int .i64 2143289344) ∧ Below w.heap.size w w' := by
 go_enter Tryz.func47, Tryz.ntmps47
 go_wp2_with fail
 refine (of_any _ _ h0 h1).mono ?_
 rintro e w1 ⟨rfl, hb1⟩
 unfold numV
 have s1 := hb1.size
 have HB1 : Hid _ := hb1
 clear hb1
 go_wp2_with fail
 go_ret
 exact ⟨rfl, HB1.out.alloc s1 _⟩
set_option maxHeartbeats 1000000 in
theorem rsqrt_4 (a : Int) (w : World) (h0 : 0 ≤ a) (h1 : a < 4294967296) (na : isNone a = false) (sa : isNeg a = true) (ia : isInf a = false) (hp : ofM a = 0) :
 Calls Tryz.prog 47 #[.int .i64 a] w fun e w' => e = .returned (.int .i64 a) ∧ Below w.heap.size w w' := by
 go_enter Tryz.func47, Tryz.ntmps47
 go_wp2_with fail
 refine (of_any _ _ h0 h1).mono ?_
 rintro e w1 ⟨rfl, hb1⟩
 unfold numV
 have s1 := hb1.size
 have HB1 : Hid _ := hb1
 clear hb1
 go_wp2_with fail
 go_ret
 exact ⟨rfl, HB1.out.alloc s1 _⟩
set_option maxHeartbeats 1000000 in
theorem rsqrt_5 (a : Int) (w : World) (h0 : 0 ≤ a) (h1 : a < 4294967296) (na : isNone a = false) (sa : isNeg a = false) (ia : isInf a = true) :
 Calls Tryz.prog 47 #[.int .i64 a] w fun e w' => e = .returned (.int .i64 a) ∧ Below w.heap.size w w' := by
 go_enter Tryz.func47, Tryz.ntmps47
 go_wp2_with fail
 refine (of_any _ _ h0 h1).mono ?_
 rintro e w1 ⟨rfl, hb1⟩
 unfold numV
 have s1 := hb1.size
 have HB1 : Hid _ := hb1
 clear hb1
 go_wp2_with fail
 go_ret
 exact ⟨rfl, HB1.out.alloc s1 _⟩
set_option maxHeartbeats 1000000 in
theorem rsqrt_6 (a : Int) (w : World) (h0 : 0 ≤ a) (h1 : a < 4294967296) (na : isNone a = false) (sa : isNeg a = false) (ia : isInf a = false) (hp : ofM a = 0) :
 Calls Tryz.prog 47 #[.int .i64 a] w fun e w' => e = .returned (.int .i64 a) ∧ Below w.heap.size w w' := by
 go_enter Tryz.func47, Tryz.ntmps47
 go_wp2_with fail
 refine (of_any _ _ h0 h1).mono ?_
 rintro e w1 ⟨rfl, hb1⟩
 unfold numV
 have s1 := hb1.size
 have HB1 : Hid _ := hb1
 clear hb1
 go_wp2_with fail
 go_ret
 exact ⟨rfl, HB1.out.alloc s1 _⟩
set_option maxHeartbeats 2000000 in
theorem rsqrt_7 (a : Int) (w : World) (h0 : 0 ≤ a) (h1 : a < 4294967296) (na : isNone a = false) (sa : isNeg a = false) (ia : isInf a = false) (fa : a % 2147483648 < 2139095040) (ma : manI a ≠ 0)
 (hev : (exI a - shortI a - 36) % 2 = 0) (M : Int) (hMM : M = manI a * 2 ^ shortI a * 68719476736) :
 Calls Tryz.prog 47 #[.int .i64 a] w fun e w' => e = .returned (.int .i64 (RI (2 * rt M.toNat + if (rt M.toNat : Int) * rt M.toNat = M then 0 else 1) ((exI a - shortI a - 36) / 2 - 1))) ∧ Below w.heap.size w w' := by
 have E1 := ofM_fin a fa
 have E2 := ofE_fin a fa
 have xa := exI_bd a
 have m1 := manI_bd a
 have da : (manI a == 0) = false := by simpa using ma
 obtain ⟨ua1, ua2, ua3⟩ := short_ok a ma
 have pa : 0 < manI a := by omega
 obtain ⟨N1, hN1⟩ : ∃ N, N = manI a * 2 ^ shortI a := ⟨_, rfl⟩
 have UA1 : Hid _ := ua1
 have UA2 : Hid _ := ua2
 rw [← hN1] at ua1 ua2 hMM
 have R1 : manI a * 2 ^ shortI a = N1 := hN1.symm
 clear hN1 fa ma
 have t : ((exI a - shortI a - 36).tmod 2 != 0) = false := by
  rw [bne_eq_false_iff_eq]; exact Int.tmod_eq_zero_of_dvd (Int.dvd_of_emod_eq_zero hev)
 have D : (exI a - shortI a - 36).tdiv 2 = (exI a - shortI a - 36) / 2 := by
  have := Int.tmod_add_mul_tdiv (exI a - shortI a - 36) 2
  have b1 := Int.lt_tmod_of_pos (exI a - shortI a - 36) (show (0 : Int) < 2 by decide)
  have b2 := Int.tmod_lt_of_pos (exI a - shortI a - 36) (show (0 : Int) < 2 by decide)
  omega
 obtain ⟨q1, q2⟩ := rt_bd M (by omega) (by omega)
 obtain ⟨R, hR⟩ : ∃ R : Int, R = (rt M.toNat : Nat) := ⟨_, rfl⟩
 have r0 : 0 ≤ R := by omega
 rw [← hR] at q1 q2
 obtain ⟨S, hS⟩ : ∃ S, S = R * R := ⟨_, rfl⟩
 have sn := Int.mul_nonneg r0 r0
 rw [← hS] at q2 sn
 have GG : Hid (RI (2 * rt M.toNat + if (rt M.toNat : Int) * rt M.toNat = M then 0 else 1) ((exI a - shortI a - 36) / 2 - 1) = RI (2 * R + if S = M then 0 else 1) ((exI a - shortI a - 36) / 2 - 1)) := by
  show _ = _
  rw [← hR, ← hS]
 obtain ⟨G, hG⟩ : ∃ G, G = RI (2 * rt M.toNat + if (rt M.toNat : Int) * rt M.toNat = M then 0 else 1) ((exI a - shortI a - 36) / 2 - 1) := ⟨_, rfl⟩
 rw [← hG] at GG ⊢
 clear hG
 have TS := hS.symm
 replace hR := hR.symm
 have TM : N1 * 68719476736 = M := by omega
 clear hS hev hMM
 go_enter Tryz.func47, Tryz.ntmps47
 go_wp2_with fail
 refine (of_any _ _ h0 h1).mono ?_
 rintro e w1 ⟨rfl, hb1⟩
 unfold numV
 have s1 := hb1.size
 have HB1 : Hid _ := hb1
 clear hb1
 go_wp2_with fail
 refine (full_any _ _ _ _ _ (shortI a) _ pa m1.2 UA1.out UA2.out xa.1 xa.2 ua3).mono ?_
 rintro e w2 ⟨rfl, hb2⟩
 have X := (Box.new w1 _ _ _ _ _).keep hb2 (by simp)
 have HB2 : Hid _ := hb2
 have s2 := hb2.size
 rw [World.size_alloc] at s2
 clear hb2
 have HX2 : Hid _ := X
 obtain ⟨x0, x1, x2, x3, x4, f0, f1, f2, f3, f4, sx⟩ := X
 have BB : Hid (Below w.heap.size w (put5 w2 w1.heap.size (.bool false) (.bool false) (.bool false) (.int .i64 N1) (.int .i64 (exI a - shortI a)))) :=
  ((HB1.out.alloc s1 _).trans (HB2.out.mono (by rw [World.size_alloc]; omega))).trans (put5_below _ _ _ _ _ (by omega))
 clear HB1 HB2 HX2
 cases hrr : (S != M)
 · have HZ : Hid (S = M) := by show S = M; simpa using hrr
   go_wp2_with (first | (go_at_call 82; refine (rshifted_any _ _ _ (by omega) (by omega) (by omega) (by omega)).mono ?_; rintro e w' ⟨rfl, rfl⟩) | (go_at_call 83; refine (rroot_any _ _ (by omega) (by omega)).mono ?_; rintro e w' ⟨rfl, rfl⟩) | (go_at_call 73; refine (round_any _ _ _ _ (by omega) (by omega) (by omega) (by omega)).mono ?_; rintro e w' ⟨rfl, rfl⟩))
   go_ret
   refine ⟨congrArg Ending.returned (congrArg (Value.int IntKind.i64) ?_), BB.out⟩
   rw [GG.out, if_pos HZ.out]; simp [sg]
 · have HZ : Hid (¬ S = M) := by show ¬ S = M; simpa using hrr
   go_wp2_with (first | (go_at_call 82; refine (rshifted_any _ _ _ (by omega) (by omega) (by omega) (by omega)).mono ?_; rintro e w' ⟨rfl, rfl⟩) | (go_at_call 83; refine (rroot_any _ _ (by omega) (by omega)).mono ?_; rintro e w' ⟨rfl, rfl⟩) | (go_at_call 73; refine (round_any _ _ _ _ (by omega) (by omega) (by omega) (by omega)).mono ?_; rintro e w' ⟨rfl, rfl⟩))
   go_ret
   refine ⟨congrArg Ending.returned (congrArg (Value.int IntKind.i64) ?_), BB.out⟩
   rw [GG.out, if_neg HZ.out]; simp [sg]
set_option maxHeartbeats 2000000 in
theorem rsqrt_8 (a : Int) (w : World) (h0 : 0 ≤ a) (h1 : a < 4294967296) (na : isNone a = false) (sa : isNeg a = false) (ia : isInf a = false) (fa : a % 2147483648 < 2139095040) (ma : manI a ≠ 0)
 (hev : ¬ (exI a - shortI a - 36) % 2 = 0) (M : Int) (hMM : M = manI a * 2 ^ shortI a * 137438953472) :
 Calls Tryz.prog 47 #[.int .i64 a] w fun e w' => e = .returned (.int .i64 (RI (2 * rt M.toNat + if (rt M.toNat : Int) * rt M.toNat = M then 0 else 1) ((exI a - shortI a - 36 - 1) / 2 - 1))) ∧ Below w.heap.size w w' := by
 have E1 := ofM_fin a fa
 have E2 := ofE_fin a fa
 have xa := exI_bd a
 have m1 := manI_bd a
 have da : (manI a == 0) = false := by simpa using ma
 obtain ⟨ua1, ua2, ua3⟩ := short_ok a ma
 have pa : 0 < manI a := by omega
 obtain ⟨N1, hN1⟩ : ∃ N, N = manI a * 2 ^ shortI a := ⟨_, rfl⟩
 have UA1 : Hid _ := ua1
 have UA2 : Hid _ := ua2
 rw [← hN1] at ua1 ua2 hMM
 have R1 : manI a * 2 ^ shortI a = N1 := hN1.symm
 clear hN1 fa ma
 have t : ((exI a - shortI a - 36).tmod 2 != 0) = true := by
  rw [bne_iff_ne]; have := Int.tmod_add_mul_tdiv (exI a - shortI a - 36) 2; omega
 have D : (exI a - shortI a - 36 - 1).tdiv 2 = (exI a - shortI a - 36 - 1) / 2 := by
  have := Int.tmod_add_mul_tdiv (exI a - shortI a - 36 - 1) 2
  have b1 := Int.lt_tmod_of_pos (exI a - shortI a - 36 - 1) (show (0 : Int) < 2 by decide)
  have b2 := Int.tmod_lt_of_pos (exI a - shortI a - 36 - 1) (show (0 : Int) < 2 by decide)
  omega
 obtain ⟨q1, q2⟩ := rt_bd M (by omega) (by omega)
 obtain ⟨R, hR⟩ : ∃ R : Int, R = (rt M.toNat : Nat) := ⟨_, rfl⟩
 have r0 : 0 ≤ R := by omega
 rw [← hR] at q1 q2
 obtain ⟨S, hS⟩ : ∃ S, S = R * R := ⟨_, rfl⟩
 have sn := Int.mul_nonneg r0 r0
 rw [← hS] at q2 sn
 have GG : Hid (RI (2 * rt M.toNat + if (rt M.toNat : Int) * rt M.toNat = M then 0 else 1) ((exI a - shortI a - 36 - 1) / 2 - 1) = RI (2 * R + if S = M then 0 else 1) ((exI a - shortI a - 36 - 1) / 2 - 1)) := by
  show _ = _
  rw [← hR, ← hS]
 obtain ⟨G, hG⟩ : ∃ G, G = RI (2 * rt M.toNat + if (rt M.toNat : Int) * rt M.toNat = M then 0 else 1) ((exI a - shortI a - 36 - 1) / 2 - 1) := ⟨_, rfl⟩
 rw [← hG] at GG ⊢
 clear hG
 have TS := hS.symm
 replace hR := hR.symm
 have TM : 2 * (N1 * 68719476736) = M := by omega
 clear hS hev hMM
 go_enter Tryz.func47, Tryz.ntmps47
 go_wp2_with fail
 refine (of_any _ _ h0 h1).mono ?_
 rintro e w1 ⟨rfl, hb1⟩
 unfold numV
 have s1 := hb1.size
 have HB1 : Hid _ := hb1
 clear hb1
 go_wp2_with fail
 refine (full_any _ _ _ _ _ (shortI a) _ pa m1.2 UA1.out UA2.out xa.1 xa.2 ua3).mono ?_
 rintro e w2 ⟨rfl, hb2⟩
 have X := (Box.new w1 _ _ _ _ _).keep hb2 (by simp)
 have HB2 : Hid _ := hb2
 have s2 := hb2.size
 rw [World.size_alloc] at s2
 clear hb2
 have HX2 : Hid _ := X
 obtain ⟨x0, x1, x2, x3, x4, f0, f1, f2, f3, f4, sx⟩ := X
 have BB : Hid (Below w.heap.size w (put5 w2 w1.heap.size (.bool false) (.bool false) (.bool false) (.int .i64 N1) (.int .i64 (exI a - shortI a)))) :=
  ((HB1.out.alloc s1 _).trans (HB2.out.mono (by rw [World.size_alloc]; omega))).trans (put5_below _ _ _ _ _ (by omega))
 clear HB1 HB2 HX2
 cases hrr : (S != M)
 · have HZ : Hid (S = M) := by show S = M; simpa using hrr
   go_wp2_with (first | (go_at_call 82; refine (rshifted_any _ _ _ (by omega) (by omega) (by omega) (by omega)).mono ?_; rintro e w' ⟨rfl, rfl⟩) | (go_at_call 83; refine (rroot_any _ _ (by omega) (by omega)).mono ?_; rintro e w' ⟨rfl, rfl⟩) | (go_at_call 73; refine (round_any _ _ _ _ (by omega) (by omega) (by omega) (by omega)).mono ?_; rintro e w' ⟨rfl, rfl⟩))
   go_ret
   refine ⟨congrArg Ending.returned (congrArg (Value.int IntKind.i64) ?_), BB.out⟩
   rw [GG.out, if_pos HZ.out]; simp [sg]
 · have HZ : Hid (¬ S = M) := by show ¬ S = M; simpa using hrr
   go_wp2_with (first | (go_at_call 82; refine (rshifted_any _ _ _ (by omega) (by omega) (by omega) (by omega)).mono ?_; rintro e w' ⟨rfl, rfl⟩) | (go_at_call 83; refine (rroot_any _ _ (by omega) (by omega)).mono ?_; rintro e w' ⟨rfl, rfl⟩) | (go_at_call 73; refine (round_any _ _ _ _ (by omega) (by omega) (by omega) (by omega)).mono ?_; rintro e w' ⟨rfl, rfl⟩))
   go_ret
   refine ⟨congrArg Ending.returned (congrArg (Value.int IntKind.i64) ?_), BB.out⟩
   rw [GG.out, if_neg HZ.out]; simp [sg]
theorem SQ_same (a M e : Int) (ma : manI a ≠ 0) (u : Nat) (hM : M = manI a * 2 ^ u) (h59 : 576460752303423488 ≤ M) (h62 : M < 4611686018427387904) (he : e = exI a - u) (hev : e % 2 = 0) (hu : u ≤ 100) :
 RI (2 * rt M.toNat + if (rt M.toNat : Int) * rt M.toNat = M then 0 else 1) (e / 2 - 1) = SQ a := by
 have m1 := manI_bd a
 have xa := exI_bd a
 have hub := upI_bd a
 have hsq := sqM_bd a ma
 have hev2 : (exI a - evI a) % 2 = 0 := by unfold evI; split <;> omega
 have hevb : 39 ≤ evI a ∧ evI a ≤ 64 := by unfold evI; split <;> omega
 obtain ⟨A, hA⟩ : ∃ A : Nat, manI a = A := ⟨(manI a).toNat, by omega⟩
 obtain ⟨m, hm⟩ : ∃ m : Nat, M = m := ⟨M.toNat, by omega⟩
 obtain ⟨n, hn⟩ : ∃ n : Nat, sqM a = n := ⟨(sqM a).toNat, by omega⟩
 have hmA : m = A * 2 ^ u := by
  have : (m : Int) = ((A * 2 ^ u : Nat) : Int) := by rw [← hm, hM, hA]; push_cast; rfl
  omega
 have hnA : n = A * 2 ^ (evI a).toNat := by
  have : (n : Int) = ((A * 2 ^ (evI a).toNat : Nat) : Int) := by rw [← hn]; unfold sqM; rw [hA]; push_cast; rfl
  omega
 obtain ⟨a1, a2⟩ := rt_spec m (by omega)
 obtain ⟨b1, b2⟩ := rt_spec n (by omega)
 have q1 : 16777216 ≤ rt m := by
  refine Nat.le_of_not_lt fun g => ?_
  have := Nat.mul_self_le_mul_self (show rt m + 1 ≤ 16777216 by omega); omega
 have q2 : 33554432 ≤ rt n := by
  refine Nat.le_of_not_lt fun g => ?_
  have := Nat.mul_self_le_mul_self (show rt n + 1 ≤ 33554432 by omega); omega
 have k1 := root_two A m (rt m) (e / 2 - 1 + 1000).toNat (exI a + 2000).toNat (by
  rw [hmA, Nat.mul_assoc, ← Nat.pow_add]; congr 2; omega) a1 a2 q1
 have k2 := root_one A n (rt n) ((exI a - evI a) / 2 + 1000).toNat (exI a + 2000).toNat (by
  rw [hnA, Nat.mul_assoc, ← Nat.pow_add]; congr 2; omega) b1 b2 q2
 have key := Rf_unique sq_mono k1 k2
 unfold SQ RI RR
 rw [hm, hn, Int.toNat_natCast, Int.toNat_natCast]
 have e1 : (2 * (rt m : Int) + if (rt m : Int) * rt m = m then 0 else 1).toNat = 2 * rt m + if rt m * rt m = m then 0 else 1 := by
  by_cases h : rt m * rt m = m
  · rw [if_pos h, if_pos (by exact_mod_cast h)]; omega
  · rw [if_neg h, if_neg (by intro g; exact h (by exact_mod_cast g))]; omega
 have e2 : (stick (rt n : Int) ((n : Int) - rt n * rt n)).toNat = stickN (rt n) (n - rt n * rt n) := by
  have : ((n : Int) - (rt n : Int) * rt n) = ((n - rt n * rt n : Nat) : Int) := by
   have : ((rt n * rt n : Nat) : Int) = (rt n : Int) * rt n := by push_cast; rfl
   omega
  rw [this, stick_N, Int.toNat_natCast]
 rw [e1, e2, key]
theorem rsqrt_any (a : Int) (w : World) (h0 : 0 ≤ a) (h1 : a < 4294967296) :
 Calls Tryz.prog 47 #[.int .i64 a] w fun e w' => e = .returned (.int .i64 (SQRT a)) ∧ Below w.heap.size w w' := by
 unfold SQRT
 cases na : isNone a
 · have n1 : ¬ 2139095040 < a % 2147483648 := by unfold isNone at na; simpa using na
   cases ia : isInf a
   · have i1 : ¬ a % 2147483648 = 2139095040 := by unfold isInf at ia; simpa using ia
     have hnm := nil_man a na ia
     have m1 := manI_bd a
     have E1 := ofM_fin a (by omega)
     cases nl : isNil a
     · rw [nl] at hnm
       have hm : ¬ ofM a = 0 := by simpa using hnm
       rw [if_neg (by simp)]
       by_cases h : 2147483648 ≤ a
       · rw [if_pos (.inr h)]; exact rsqrt_3 a w h0 h1 na (isNeg_t h) ia (by omega)
       · rw [if_neg (by simp; omega), if_neg (by simp)]
         have mz : manI a ≠ 0 := by omega
         obtain ⟨u1, u2, u3⟩ := short_ok a mz
         by_cases hev : (exI a - shortI a - 36) % 2 = 0
         · have hp : manI a * 2 ^ shortI a * 68719476736 = manI a * 2 ^ (shortI a + 36) := by rw [Int.pow_add, ← Int.mul_assoc]; rfl
           have := SQ_same a (manI a * 2 ^ shortI a * 68719476736) (exI a - shortI a - 36) mz (shortI a + 36) hp (by omega) (by omega) (by omega) hev (by omega)
           rw [← this]
           exact rsqrt_7 a w h0 h1 na (isNeg_f h) ia (by omega) mz hev _ rfl
         · have hp : manI a * 2 ^ shortI a * 137438953472 = manI a * 2 ^ (shortI a + 37) := by rw [Int.pow_add, ← Int.mul_assoc]; rfl
           have := SQ_same a (manI a * 2 ^ shortI a * 137438953472) (exI a - shortI a - 36 - 1) mz (shortI a + 37) hp (by omega) (by omega) (by omega) (by omega) (by omega)
           rw [← this]
           exact rsqrt_8 a w h0 h1 na (isNeg_f h) ia (by omega) mz hev _ rfl
     · rw [nl] at hnm
       have hm : ofM a = 0 := by simpa using hnm
       rw [if_pos rfl]
       by_cases h : 2147483648 ≤ a
       · exact rsqrt_4 a w h0 h1 na (isNeg_t h) ia hm
       · exact rsqrt_6 a w h0 h1 na (isNeg_f h) ia hm
   · rw [inf_not_nil ia, if_neg (by simp)]
     by_cases h : 2147483648 ≤ a
     · rw [if_pos (.inr h)]; exact rsqrt_2 a w h0 h1 na (isNeg_t h) ia
     · rw [if_neg (by simp; omega), if_pos rfl]; exact rsqrt_5 a w h0 h1 na (isNeg_f h) ia
 · have n1 : 2139095040 < a % 2147483648 := by unfold isNone at na; simpa using na
   rw [isNil_f (by omega), if_neg (by simp), if_pos (.inl rfl)]
   exact rsqrt_1 a w h0 h1 na
end Go.Proofs.YtoihkljlekknkaaGreat
