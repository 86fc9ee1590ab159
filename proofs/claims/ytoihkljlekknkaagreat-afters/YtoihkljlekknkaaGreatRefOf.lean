/-
  What tutorref.Of and tutorref.shifted answer. Conditions: a pattern is 0 to 2^32 - 1; a number that is shifted is 0 to 2^24, by 0 to 37 places.
-/
import Derived.Test.YtoihkljlekknkaaGreatBits
import Derived.Test.YtoihkljlekknkaaGreatMath
import Derived.Deep.QuietTactic
import Derived.BigQuiet
namespace Go.Proofs.YtoihkljlekknkaaGreat
open Go.RowKit
def ofM (a : Int) : Int := if a % 2147483648 < 2139095040 then manI a else 0
def ofE (a : Int) : Int := if a % 2147483648 < 2139095040 then exI a else 0
def numV (a : Int) : Value := .agg #[.bool (isNone a), .bool (isInf a), .bool (isNeg a), .int .i64 (ofM a), .int .i64 (ofE a)]
theorem of_val (a : Int) (m e : Int) (n i : Bool) (hn : isNone a = n) (hi : isInf a = i) (hm : ofM a = m) (he : ofE a = e) : numV a = .agg #[.bool n, .bool i, .bool (isNeg a), .int .i64 m, .int .i64 e] := by
 unfold numV; rw [hn, hi, hm, he]
set_option maxHeartbeats 400000 in
theorem of_any (a : Int) (w : World) (h0 : 0 ≤ a) (h1 : a < 4294967296) :
 Calls Tryz.prog 71 #[.int .i64 a] w fun e w' => e = .returned (numV a) ∧ Below w.heap.size w w' := by
 by_cases c1 : a % 2147483648 / 8388608 = 255
 · have d1 : (a % 2147483648 / 8388608 == 255) = true := by simpa using c1
   by_cases c2 : a % 8388608 = 0
   · have d2 : (a % 8388608 == 0) = true := by simpa using c2
     have E := of_val a (0) (0) false true (isNone_f (by omega)) (isInf_t (by omega)) (if_neg (by omega)) (if_neg (by omega))
     rw [E]
     clear E c1 c2
     go_enter Tryz.func71, Tryz.ntmps71
     go_wp2
     refine bodyPost_ret (v := .agg #[.bool false, .bool true, .bool (isNeg a), .int .i64 (0), .int .i64 (0)]) (by simp [results, Tryz.results71, go_sem, isNeg]) rfl ⟨rfl, ?_⟩
     exact ((Below.refl _ _).alloc (Nat.le_refl _) _).alloc (by simp) _
   · have d2 : (a % 8388608 == 0) = false := by simpa using c2
     have E := of_val a (0) (0) true false (isNone_t (by omega)) (isInf_f (by omega)) (if_neg (by omega)) (if_neg (by omega))
     rw [E]
     clear E c1 c2
     go_enter Tryz.func71, Tryz.ntmps71
     go_wp2
     refine bodyPost_ret (v := .agg #[.bool true, .bool false, .bool (isNeg a), .int .i64 (0), .int .i64 (0)]) (by simp [results, Tryz.results71, go_sem, isNeg]) rfl ⟨rfl, ?_⟩
     exact ((Below.refl _ _).alloc (Nat.le_refl _) _).alloc (by simp) _
 · have d1 : (a % 2147483648 / 8388608 == 255) = false := by simpa using c1
   by_cases c3 : a % 2147483648 / 8388608 = 0
   · have d3 : (a % 2147483648 / 8388608 == 0) = true := by simpa using c3
     have E := of_val a (a % 8388608) (-149) false false (isNone_f (by omega)) (isInf_f (by omega)) (by unfold ofM manI; rw [if_pos (by omega), if_pos (by omega)]; omega) (by unfold ofE exI; rw [if_pos (by omega), if_pos (by omega)])
     rw [E]
     clear E c1 c3
     go_enter Tryz.func71, Tryz.ntmps71
     go_wp2
     refine bodyPost_ret (v := .agg #[.bool false, .bool false, .bool (isNeg a), .int .i64 (a % 8388608), .int .i64 (-149)]) (by simp [results, Tryz.results71, go_sem, isNeg]) rfl ⟨rfl, ?_⟩
     exact ((Below.refl _ _).alloc (Nat.le_refl _) _).alloc (by simp) _
   · have d3 : (a % 2147483648 / 8388608 == 0) = false := by simpa using c3
     have E := of_val a (8388608 + a % 8388608) (a % 2147483648 / 8388608 - 150) false false (isNone_f (by omega)) (isInf_f (by omega)) (by unfold ofM manI; rw [if_pos (by omega), if_neg (by omega)]; omega) (by unfold ofE exI; rw [if_pos (by omega), if_neg (by omega)])
     rw [E]
     clear E c1 c3
     go_enter Tryz.func71, Tryz.ntmps71
     go_wp2
     refine bodyPost_ret (v := .agg #[.bool false, .bool false, .bool (isNeg a), .int .i64 (8388608 + a % 8388608), .int .i64 (a % 2147483648 / 8388608 - 150)]) (by simp [results, Tryz.results71, go_sem, isNeg]) rfl ⟨rfl, ?_⟩
     exact ((Below.refl _ _).alloc (Nat.le_refl _) _).alloc (by simp) _

theorem pow_bd (m : Int) (j n : Nat) (h0 : 0 ≤ m) (hj : j ≤ n) : 0 ≤ m * 2 ^ j ∧ m * 2 ^ j ≤ m * 2 ^ n := by
 have h1 : (2 : Int) ^ j ≤ 2 ^ n := by rw [pow_cast, pow_cast]; have := Nat.pow_le_pow_right (n := 2) (by decide) hj; omega
 have h2 : (0 : Int) ≤ 2 ^ j := by rw [pow_cast]; exact Int.natCast_nonneg _
 exact ⟨Int.mul_nonneg h0 h2, Int.mul_le_mul_of_nonneg_left h1 h0⟩
theorem pow_next (m : Int) (j : Nat) : 2 * (m * 2 ^ j) = m * 2 ^ (j + 1) := by
 rw [show (2 : Int) ^ (j + 1) = 2 ^ j * 2 from rfl, ← Int.mul_assoc m]; omega
set_option maxHeartbeats 1000000 in
theorem rshifted_any (m k : Int) (w : World) (h0 : 0 ≤ m) (h1 : m ≤ 16777216) (k0 : 0 ≤ k) (k1 : k ≤ 37) :
 Calls Tryz.prog 82 #[.int .i64 m, .int .i64 k] w fun e w' => e = .returned (.int .i64 (m * 2 ^ k.toNat)) ∧ w' = w := by
 go_enter Tryz.func82, Tryz.ntmps82
 go_wp2
 go_loop [0, 1] (fun mv kv => ∃ (j : Nat) (c P : Int), mv = .int .i64 P ∧ kv = .int .i64 c ∧ 0 ≤ c ∧ c ≤ 37 ∧ Hid (c + j = k) ∧ Hid (P = m * 2 ^ j)) (fun _ kv => (intOf kv).toNat)
 case atStart => exact ⟨0, k, m, rfl, rfl, k0, k1, by show k + 0 = k; omega, by show m = m * 2 ^ 0; simp⟩
 case round =>
  obtain ⟨j, c, P, rfl, rfl, c0, c1, hj, hP⟩ := hrel
  by_cases hc : 0 < c
  · have hb := pow_bd m j 36 h0 (by have := hj.out; omega)
    have hq : 0 ≤ P ∧ P ≤ 1152921504606846976 := by rw [hP.out]; omega
    have hn : Hid (2 * P = m * 2 ^ (j + 1)) := by have := pow_next m j; rw [← hP.out] at this; exact this
    clear hb hP
    go_wp2
    go_round
    case rel => exact ⟨j + 1, c - 1, 2 * P, rfl, rfl, by omega, by omega, by have := hj.out; show c - 1 + ((j + 1 : Nat) : Int) = k; omega, hn⟩
    case measure => simp [intOf]; omega
  · have hr : Hid (P = m * 2 ^ k.toNat) := by
     have := hP.out; have := hj.out
     rw [show k.toNat = j from by omega]; assumption
    clear hP
    go_wp2
    go_ret
    refine ⟨congrArg Ending.returned (congrArg (Value.int IntKind.i64) ?_), rfl⟩
    exact hr.out
theorem bcell {W w1 : World} (hb : Below W.heap.size W w1) : (∀ b o, b < W.heap.size → w1.cell? ⟨b, o, none⟩ = W.cell? ⟨b, o, none⟩) ∧ (∀ b o, b < W.heap.size → w1.frozen? ⟨b, o, none⟩ = W.frozen? ⟨b, o, none⟩) :=
 ⟨fun b o h => hb.cell (p := ⟨b, o, none⟩) h, fun b o h => hb.frozen (p := ⟨b, o, none⟩) h⟩
theorem exZ_far (a b gap : Int) (h : ¬ gap ≤ 37) : exZ a b gap = if 0 < b then 16 * a + 1 else if b < 0 then 16 * a - 1 else a := by unfold exZ; rw [if_neg h]
theorem exF_far (b ex ey : Int) (h : ¬ ex - ey ≤ 37) : exF b ex ey = if b = 0 then ex else ex - 4 := by unfold exF; rw [if_neg h]
theorem exZ_near (a b gap : Int) (h : gap ≤ 37) : exZ a b gap = 2 ^ gap.toNat * a + b := by unfold exZ; rw [if_pos h]
theorem exF_near (b ex ey : Int) (h : ex - ey ≤ 37) : exF b ex ey = ey := by unfold exF; rw [if_pos h]
theorem bel2 (w : World) (o p : Obj) (n : Nat) : Below w.heap.size w (((w.alloc o).alloc p).drewN n) := below_drewN (((Below.refl _ _).alloc (Nat.le_refl _) _).alloc (by simp) _) n
end Go.Proofs.YtoihkljlekknkaaGreat
/-
  What tutorref.exact answers: the sum of two finite numbers as a whole number times a power of 2. Conditions: the numbers are finite patterns apart, the power of the first is no less.
-/
namespace Go.Proofs.YtoihkljlekknkaaGreat
open Go.RowKit
set_option linter.unusedVariables false
set_option linter.unusedSimpArgs false
set_option maxHeartbeats 1000000 in
theorem exact_near (n i n' i' sx sy : Bool) (mx ex my ey : Int) (w : World) (x0 : 0 ≤ mx) (x1 : mx < 16777216) (y0 : 0 ≤ my) (y1 : my < 16777216) (e0 : -149 ≤ ey) (e1 : ey ≤ ex) (e2 : ex ≤ 105) (hg : ex - ey ≤ 37) :
 Calls Tryz.prog 80 #[.agg #[.bool n, .bool i, .bool sx, .int .i64 mx, .int .i64 ex], .agg #[.bool n', .bool i', .bool sy, .int .i64 my, .int .i64 ey]] w fun e w' =>
  e = .returned (.tuple #[.int .i64 (exZ (ng sx mx) (ng sy my) (ex - ey)), .int .i64 (exF (ng sy my) ex ey)]) ∧ Below w.heap.size w w' := by
 rw [exZ_near _ _ _ hg, exF_near _ _ _ hg]
 obtain ⟨T, hT⟩ : ∃ T : Int, T = 2 ^ (ex - ey).toNat * mx := ⟨_, rfl⟩
 have hb := pow_bd mx (ex - ey).toNat 37 x0 (by omega)
 have hT0 : 0 ≤ T ∧ T < 2305843009213693952 := by rw [hT, Int.mul_comm]; omega
 have hTn : 2 ^ (ex - ey).toNat * -mx = -T := by rw [hT, Int.mul_neg]
 replace hT := hT.symm
 clear hb
 cases sx <;> cases sy
 · simp only [ng, if_true, if_false, Bool.false_eq_true]
   rw [hT]
   go_enter Tryz.func80, Tryz.ntmps80
   go_wp2
   go_quiet ((go_at_call 82; exact Calls.quiet_of_same (rshifted_any _ _ _ (by omega) (by omega) (by omega) (by omega))))
   go_wp2
   go_ret2
   exact ⟨rfl, bel2 _ _ _ _⟩
 · simp only [ng, if_true, if_false, Bool.false_eq_true]
   rw [hT]
   go_enter Tryz.func80, Tryz.ntmps80
   go_wp2
   go_quiet ((go_at_call 82; exact Calls.quiet_of_same (rshifted_any _ _ _ (by omega) (by omega) (by omega) (by omega))))
   go_wp2
   go_ret2
   exact ⟨rfl, bel2 _ _ _ _⟩
 · simp only [ng, if_true, if_false, Bool.false_eq_true]
   rw [hTn]
   go_enter Tryz.func80, Tryz.ntmps80
   go_wp2
   go_quiet ((go_at_call 82; exact Calls.quiet_of_same (rshifted_any _ _ _ (by omega) (by omega) (by omega) (by omega))))
   go_wp2
   go_ret2
   exact ⟨rfl, bel2 _ _ _ _⟩
 · simp only [ng, if_true, if_false, Bool.false_eq_true]
   rw [hTn]
   go_enter Tryz.func80, Tryz.ntmps80
   go_wp2
   go_quiet ((go_at_call 82; exact Calls.quiet_of_same (rshifted_any _ _ _ (by omega) (by omega) (by omega) (by omega))))
   go_wp2
   go_ret2
   exact ⟨rfl, bel2 _ _ _ _⟩
set_option maxHeartbeats 1000000 in
theorem exact_far (n i n' i' sx sy : Bool) (mx ex my ey : Int) (w : World) (x0 : 0 ≤ mx) (x1 : mx < 16777216) (y0 : 0 ≤ my) (y1 : my < 16777216) (e0 : -149 ≤ ey) (e1 : ey ≤ ex) (e2 : ex ≤ 105) (hg : ¬ ex - ey ≤ 37) :
 Calls Tryz.prog 80 #[.agg #[.bool n, .bool i, .bool sx, .int .i64 mx, .int .i64 ex], .agg #[.bool n', .bool i', .bool sy, .int .i64 my, .int .i64 ey]] w fun e w' =>
  e = .returned (.tuple #[.int .i64 (exZ (ng sx mx) (ng sy my) (ex - ey)), .int .i64 (exF (ng sy my) ex ey)]) ∧ Below w.heap.size w w' := by
 rw [exZ_far _ _ _ hg, exF_far _ _ _ hg]
 by_cases hb : my = 0
 · subst hb
   cases sx <;> cases sy
   all_goals
    simp only [ng, if_true, if_false, Bool.false_eq_true, Int.neg_zero, Int.lt_irrefl]
    go_enter Tryz.func80, Tryz.ntmps80
    go_wp2
    go_quiet (fail)
    go_wp2
    go_ret2
    exact ⟨rfl, bel2 _ _ _ _⟩
 · have hp : 0 < my := by omega
   cases sx <;> cases sy
   · simp only [ng, if_false, Bool.false_eq_true]
     rw [if_pos hp, if_neg hb]
     clear hb
     go_enter Tryz.func80, Tryz.ntmps80
     go_wp2
     go_quiet (fail)
     go_wp2
     go_ret2
     exact ⟨rfl, bel2 _ _ _ _⟩
   · simp only [ng, if_true, if_false, Bool.false_eq_true]
     rw [if_neg (by omega), if_pos (by omega), if_neg (by omega)]
     clear hb
     go_enter Tryz.func80, Tryz.ntmps80
     go_wp2
     go_quiet (fail)
     go_wp2
     go_ret2
     exact ⟨rfl, bel2 _ _ _ _⟩
   · simp only [ng, if_true, if_false, Bool.false_eq_true]
     rw [if_pos hp, if_neg hb]
     clear hb
     go_enter Tryz.func80, Tryz.ntmps80
     go_wp2
     go_quiet (fail)
     go_wp2
     go_ret2
     exact ⟨rfl, bel2 _ _ _ _⟩
   · simp only [ng, if_true]
     rw [if_neg (by omega), if_pos (by omega), if_neg (by omega)]
     clear hb
     go_enter Tryz.func80, Tryz.ntmps80
     go_wp2
     go_quiet (fail)
     go_wp2
     go_ret2
     exact ⟨rfl, bel2 _ _ _ _⟩
theorem exact_any (n i n' i' sx sy : Bool) (mx ex my ey : Int) (w : World) (x0 : 0 ≤ mx) (x1 : mx < 16777216) (y0 : 0 ≤ my) (y1 : my < 16777216) (e0 : -149 ≤ ey) (e1 : ey ≤ ex) (e2 : ex ≤ 105) :
 Calls Tryz.prog 80 #[.agg #[.bool n, .bool i, .bool sx, .int .i64 mx, .int .i64 ex], .agg #[.bool n', .bool i', .bool sy, .int .i64 my, .int .i64 ey]] w fun e w' =>
  e = .returned (.tuple #[.int .i64 (exZ (ng sx mx) (ng sy my) (ex - ey)), .int .i64 (exF (ng sy my) ex ey)]) ∧ Below w.heap.size w w' := by
 by_cases hg : ex - ey ≤ 37
 · exact exact_near n i n' i' sx sy mx ex my ey w x0 x1 y0 y1 e0 e1 e2 hg
 · exact exact_far n i n' i' sx sy mx ex my ey w x0 x1 y0 y1 e0 e1 e2 hg
end Go.Proofs.YtoihkljlekknkaaGreat
/-
  What tutorref.Add answers for every two patterns but where the second has the greater power of 2: P2 by the document's answer. Conditions: the patterns are 0 to 2^32 - 1.
-/
namespace Go.Proofs.YtoihkljlekknkaaGreat
open Go.RowKit
set_option linter.unusedVariables false
set_option linter.unusedSimpArgs false
theorem box_cells {w w' : World} {v0 v1 v2 v3 v4 : Value} (hb : Below (w.alloc (.cells #[v0, v1, v2, v3, v4] 103)).heap.size (w.alloc (.cells #[v0, v1, v2, v3, v4] 103)) w') :
 w'.cell? ⟨w.heap.size, 0, none⟩ = some v0 ∧ w'.cell? ⟨w.heap.size, 1, none⟩ = some v1 ∧ w'.cell? ⟨w.heap.size, 2, none⟩ = some v2 ∧ w'.cell? ⟨w.heap.size, 3, none⟩ = some v3 ∧ w'.cell? ⟨w.heap.size, 4, none⟩ = some v4 ∧
 w'.frozen? ⟨w.heap.size, 0, none⟩ = false ∧ w'.frozen? ⟨w.heap.size, 1, none⟩ = false ∧ w'.frozen? ⟨w.heap.size, 2, none⟩ = false ∧ w'.frozen? ⟨w.heap.size, 3, none⟩ = false ∧ w'.frozen? ⟨w.heap.size, 4, none⟩ = false ∧ w.heap.size < w'.heap.size := by
 have hs := hb.size
 rw [World.size_alloc] at hs
 refine ⟨?_, ?_, ?_, ?_, ?_, ?_, ?_, ?_, ?_, ?_, by omega⟩
 all_goals first | (rw [hb.cell (by simp)]; simp [go_sem]) | (rw [hb.frozen (by simp)]; simp [go_sem])
set_option maxHeartbeats 1000000 in
theorem radd_1 (a b : Int) (w : World) (h0 : 0 ≤ a) (h1 : a < 4294967296) (g0 : 0 ≤ b) (g1 : b < 4294967296) (na : isNone a = true) :
 Calls Tryz.prog 45 #[.int .i64 a, .int .i64 b] w fun e w' => e = .returned (.int .i64 2143289344) ∧ Below w.heap.size w w' := by
 go_enter Tryz.func45, Tryz.ntmps45
 go_wp2_with fail
 refine (of_any _ _ h0 h1).mono ?_
 rintro e w1 ⟨rfl, hb1⟩
 unfold numV
 have s1 := hb1.size
 have HB1 : Hid _ := hb1
 clear hb1
 go_wp2_with fail
 refine (of_any _ _ g0 g1).mono ?_
 rintro e w2 ⟨rfl, hb2⟩
 unfold numV
 obtain ⟨x0, x1, x2, x3, x4, f0, f1, f2, f3, f4, s2⟩ := box_cells hb2
 have HB2 : Hid _ := hb2
 clear hb2
 go_wp2_with fail
 go_ret
 exact ⟨rfl, ((HB1.out.alloc s1 _).trans (HB2.out.mono (by rw [World.size_alloc]; omega))).alloc (by omega) _⟩
set_option maxHeartbeats 1000000 in
theorem radd_2 (a b : Int) (w : World) (h0 : 0 ≤ a) (h1 : a < 4294967296) (g0 : 0 ≤ b) (g1 : b < 4294967296) (na : isNone a = false) (nb : isNone b = true) :
 Calls Tryz.prog 45 #[.int .i64 a, .int .i64 b] w fun e w' => e = .returned (.int .i64 2143289344) ∧ Below w.heap.size w w' := by
 go_enter Tryz.func45, Tryz.ntmps45
 go_wp2_with fail
 refine (of_any _ _ h0 h1).mono ?_
 rintro e w1 ⟨rfl, hb1⟩
 unfold numV
 have s1 := hb1.size
 have HB1 : Hid _ := hb1
 clear hb1
 go_wp2_with fail
 refine (of_any _ _ g0 g1).mono ?_
 rintro e w2 ⟨rfl, hb2⟩
 unfold numV
 obtain ⟨x0, x1, x2, x3, x4, f0, f1, f2, f3, f4, s2⟩ := box_cells hb2
 have HB2 : Hid _ := hb2
 clear hb2
 go_wp2_with fail
 go_ret
 exact ⟨rfl, ((HB1.out.alloc s1 _).trans (HB2.out.mono (by rw [World.size_alloc]; omega))).alloc (by omega) _⟩
set_option maxHeartbeats 1000000 in
theorem radd_3a (a b : Int) (w : World) (h0 : 0 ≤ a) (h1 : a < 4294967296) (g0 : 0 ≤ b) (g1 : b < 4294967296) (na : isNone a = false) (nb : isNone b = false) (ia : isInf a = true) (ib : isInf b = true) (ea : isNeg a = true) (eb : isNeg b = false) :
 Calls Tryz.prog 45 #[.int .i64 a, .int .i64 b] w fun e w' => e = .returned (.int .i64 2143289344) ∧ Below w.heap.size w w' := by
 go_enter Tryz.func45, Tryz.ntmps45
 go_wp2_with fail
 refine (of_any _ _ h0 h1).mono ?_
 rintro e w1 ⟨rfl, hb1⟩
 unfold numV
 have s1 := hb1.size
 have HB1 : Hid _ := hb1
 clear hb1
 go_wp2_with fail
 refine (of_any _ _ g0 g1).mono ?_
 rintro e w2 ⟨rfl, hb2⟩
 unfold numV
 obtain ⟨x0, x1, x2, x3, x4, f0, f1, f2, f3, f4, s2⟩ := box_cells hb2
 have HB2 : Hid _ := hb2
 clear hb2
 go_wp2_with fail
 go_ret
 exact ⟨rfl, ((HB1.out.alloc s1 _).trans (HB2.out.mono (by rw [World.size_alloc]; omega))).alloc (by omega) _⟩
set_option maxHeartbeats 1000000 in
theorem radd_3b (a b : Int) (w : World) (h0 : 0 ≤ a) (h1 : a < 4294967296) (g0 : 0 ≤ b) (g1 : b < 4294967296) (na : isNone a = false) (nb : isNone b = false) (ia : isInf a = true) (ib : isInf b = true) (ea : isNeg a = false) (eb : isNeg b = true) :
 Calls Tryz.prog 45 #[.int .i64 a, .int .i64 b] w fun e w' => e = .returned (.int .i64 2143289344) ∧ Below w.heap.size w w' := by
 go_enter Tryz.func45, Tryz.ntmps45
 go_wp2_with fail
 refine (of_any _ _ h0 h1).mono ?_
 rintro e w1 ⟨rfl, hb1⟩
 unfold numV
 have s1 := hb1.size
 have HB1 : Hid _ := hb1
 clear hb1
 go_wp2_with fail
 refine (of_any _ _ g0 g1).mono ?_
 rintro e w2 ⟨rfl, hb2⟩
 unfold numV
 obtain ⟨x0, x1, x2, x3, x4, f0, f1, f2, f3, f4, s2⟩ := box_cells hb2
 have HB2 : Hid _ := hb2
 clear hb2
 go_wp2_with fail
 go_ret
 exact ⟨rfl, ((HB1.out.alloc s1 _).trans (HB2.out.mono (by rw [World.size_alloc]; omega))).alloc (by omega) _⟩
set_option maxHeartbeats 1000000 in
theorem radd_4a (a b : Int) (w : World) (h0 : 0 ≤ a) (h1 : a < 4294967296) (g0 : 0 ≤ b) (g1 : b < 4294967296) (na : isNone a = false) (nb : isNone b = false) (ia : isInf a = true) (ib : isInf b = true) (ea : isNeg a = true) (eb : isNeg b = true) :
 Calls Tryz.prog 45 #[.int .i64 a, .int .i64 b] w fun e w' => e = .returned (.int .i64 a) ∧ Below w.heap.size w w' := by
 go_enter Tryz.func45, Tryz.ntmps45
 go_wp2_with fail
 refine (of_any _ _ h0 h1).mono ?_
 rintro e w1 ⟨rfl, hb1⟩
 unfold numV
 have s1 := hb1.size
 have HB1 : Hid _ := hb1
 clear hb1
 go_wp2_with fail
 refine (of_any _ _ g0 g1).mono ?_
 rintro e w2 ⟨rfl, hb2⟩
 unfold numV
 obtain ⟨x0, x1, x2, x3, x4, f0, f1, f2, f3, f4, s2⟩ := box_cells hb2
 have HB2 : Hid _ := hb2
 clear hb2
 go_wp2_with fail
 go_ret
 exact ⟨rfl, ((HB1.out.alloc s1 _).trans (HB2.out.mono (by rw [World.size_alloc]; omega))).alloc (by omega) _⟩
set_option maxHeartbeats 1000000 in
theorem radd_4b (a b : Int) (w : World) (h0 : 0 ≤ a) (h1 : a < 4294967296) (g0 : 0 ≤ b) (g1 : b < 4294967296) (na : isNone a = false) (nb : isNone b = false) (ia : isInf a = true) (ib : isInf b = true) (ea : isNeg a = false) (eb : isNeg b = false) :
 Calls Tryz.prog 45 #[.int .i64 a, .int .i64 b] w fun e w' => e = .returned (.int .i64 a) ∧ Below w.heap.size w w' := by
 go_enter Tryz.func45, Tryz.ntmps45
 go_wp2_with fail
 refine (of_any _ _ h0 h1).mono ?_
 rintro e w1 ⟨rfl, hb1⟩
 unfold numV
 have s1 := hb1.size
 have HB1 : Hid _ := hb1
 clear hb1
 go_wp2_with fail
 refine (of_any _ _ g0 g1).mono ?_
 rintro e w2 ⟨rfl, hb2⟩
 unfold numV
 obtain ⟨x0, x1, x2, x3, x4, f0, f1, f2, f3, f4, s2⟩ := box_cells hb2
 have HB2 : Hid _ := hb2
 clear hb2
 go_wp2_with fail
 go_ret
 exact ⟨rfl, ((HB1.out.alloc s1 _).trans (HB2.out.mono (by rw [World.size_alloc]; omega))).alloc (by omega) _⟩
set_option maxHeartbeats 1000000 in
theorem radd_5 (a b : Int) (w : World) (h0 : 0 ≤ a) (h1 : a < 4294967296) (g0 : 0 ≤ b) (g1 : b < 4294967296) (na : isNone a = false) (nb : isNone b = false) (ia : isInf a = true) (ib : isInf b = false) :
 Calls Tryz.prog 45 #[.int .i64 a, .int .i64 b] w fun e w' => e = .returned (.int .i64 a) ∧ Below w.heap.size w w' := by
 go_enter Tryz.func45, Tryz.ntmps45
 go_wp2_with fail
 refine (of_any _ _ h0 h1).mono ?_
 rintro e w1 ⟨rfl, hb1⟩
 unfold numV
 have s1 := hb1.size
 have HB1 : Hid _ := hb1
 clear hb1
 go_wp2_with fail
 refine (of_any _ _ g0 g1).mono ?_
 rintro e w2 ⟨rfl, hb2⟩
 unfold numV
 obtain ⟨x0, x1, x2, x3, x4, f0, f1, f2, f3, f4, s2⟩ := box_cells hb2
 have HB2 : Hid _ := hb2
 clear hb2
 go_wp2_with fail
 go_ret
 exact ⟨rfl, ((HB1.out.alloc s1 _).trans (HB2.out.mono (by rw [World.size_alloc]; omega))).alloc (by omega) _⟩
set_option maxHeartbeats 1000000 in
theorem radd_6 (a b : Int) (w : World) (h0 : 0 ≤ a) (h1 : a < 4294967296) (g0 : 0 ≤ b) (g1 : b < 4294967296) (na : isNone a = false) (nb : isNone b = false) (ia : isInf a = false) (ib : isInf b = true) :
 Calls Tryz.prog 45 #[.int .i64 a, .int .i64 b] w fun e w' => e = .returned (.int .i64 b) ∧ Below w.heap.size w w' := by
 go_enter Tryz.func45, Tryz.ntmps45
 go_wp2_with fail
 refine (of_any _ _ h0 h1).mono ?_
 rintro e w1 ⟨rfl, hb1⟩
 unfold numV
 have s1 := hb1.size
 have HB1 : Hid _ := hb1
 clear hb1
 go_wp2_with fail
 refine (of_any _ _ g0 g1).mono ?_
 rintro e w2 ⟨rfl, hb2⟩
 unfold numV
 obtain ⟨x0, x1, x2, x3, x4, f0, f1, f2, f3, f4, s2⟩ := box_cells hb2
 have HB2 : Hid _ := hb2
 clear hb2
 go_wp2_with fail
 go_ret
 exact ⟨rfl, ((HB1.out.alloc s1 _).trans (HB2.out.mono (by rw [World.size_alloc]; omega))).alloc (by omega) _⟩
theorem ofM_fin (a : Int) (h : a % 2147483648 < 2139095040) : ofM a = manI a := by unfold ofM; rw [if_pos h]
theorem ofE_fin (a : Int) (h : a % 2147483648 < 2139095040) : ofE a = exI a := by unfold ofE; rw [if_pos h]
/-- two boxes behind a call that makes memory of its own -/
theorem two_boxes {w w' : World} {B : Nat} {u : Value} {v0 v1 v2 v3 v4 : Value} (hb : Below (w.alloc (.cells #[v0, v1, v2, v3, v4] 103)).heap.size (w.alloc (.cells #[v0, v1, v2, v3, v4] 103)) w') (hB : B < w.heap.size) (hu : w.cell? ⟨B, 2, none⟩ = some u) :
 w'.cell? ⟨B, 2, none⟩ = some u ∧ w'.cell? ⟨w.heap.size, 2, none⟩ = some v2 := by
 constructor
 · rw [hb.cell (p := ⟨B, 2, none⟩) (by rw [World.size_alloc]; show B < _; omega)]
   simp [go_sem, hu, hB]
 · rw [hb.cell (by simp)]; simp [go_sem]
set_option maxHeartbeats 1000000 in
theorem radd_7 (a b : Int) (w : World) (h0 : 0 ≤ a) (h1 : a < 4294967296) (g0 : 0 ≤ b) (g1 : b < 4294967296) (na : isNone a = false) (nb : isNone b = false) (ia : isInf a = false) (ib : isInf b = false)
 (fa : a % 2147483648 < 2139095040) (fb : b % 2147483648 < 2139095040) (hle : exI b ≤ exI a) :
 Calls Tryz.prog 45 #[.int .i64 a, .int .i64 b] w fun e w' => e = .returned (.int .i64 (ADDf a b)) ∧ Below w.heap.size w w' := by
 have E1 := ofM_fin a fa
 have E2 := ofE_fin a fa
 have E3 := ofM_fin b fb
 have E4 := ofE_fin b fb
 have xa := exI_bd a
 have xb := exI_bd b
 have ma := manI_bd a
 have mb := manI_bd b
 clear fb
 go_enter Tryz.func45, Tryz.ntmps45
 go_wp2_with fail
 refine (of_any _ _ h0 h1).mono ?_
 rintro e w1 ⟨rfl, hb1⟩
 unfold numV
 have s1 := hb1.size
 have HB1 : Hid _ := hb1
 clear hb1
 go_wp2_with fail
 refine (of_any _ _ g0 g1).mono ?_
 rintro e w2 ⟨rfl, hb2⟩
 unfold numV
 obtain ⟨x0, x1, x2, x3, x4, f0, f1, f2, f3, f4, s2⟩ := box_cells hb2
 have HB2 : Hid _ := hb2
 clear hb2
 go_wp2_with fail
 refine (exact_any _ _ _ _ _ _ _ _ _ _ _ ma.1 ma.2 mb.1 mb.2 xb.1 hle xa.2).mono ?_
 rintro e w3 ⟨rfl, hb3⟩
 obtain ⟨y2, z2⟩ := two_boxes (u := .bool (isNeg a)) hb3 s2 x2
 have s3 := hb3.size
 rw [World.size_alloc] at s3
 have HB3 : Hid _ := hb3
 clear hb3
 obtain ⟨Z, hZ⟩ : ∃ Z, Z = exZ (ng (isNeg a) (manI a)) (ng (isNeg b) (manI b)) (exI a - exI b) := ⟨_, rfl⟩
 obtain ⟨F, hF⟩ : ∃ F, F = exF (ng (isNeg b) (manI b)) (exI a) (exI b) := ⟨_, rfl⟩
 obtain ⟨k1, k2, k3, k4, k5, k6, k7⟩ := exact_ok a b h0 h1 g0 g1 (by unfold sz; omega) hle Z F hZ hF
 rw [← hZ, ← hF]
 clear hZ hF
 have BB : Hid (Below w.heap.size w w3) := (((HB1.out.alloc s1 _).trans (HB2.out.mono (by rw [World.size_alloc]; omega))).alloc (by omega) _).trans (HB3.out.mono (by rw [World.size_alloc]; omega))
 clear HB1 HB2 HB3 x0 x1 x2 x3 x4 f0 f1 f2 f3 f4
 by_cases c1 : Z < 0
 · have R : Hid _ := k1 c1
   clear k1 k2 k3
   go_wp2_with (first | (go_at_call 73; refine (round_any _ _ _ _ (by omega) (by omega) (by omega) (by omega)).mono ?_; rintro e w' ⟨rfl, rfl⟩))
   go_ret
   exact ⟨congrArg Ending.returned (congrArg (Value.int IntKind.i64) R.out), BB.out⟩
 · by_cases c2 : Z = 0
   · have R : Hid _ := k3 c2
     have D : (Z == 0) = true := by simpa using c2
     clear k1 k2 k3
     obtain ⟨sa, hsa⟩ : ∃ s, s = isNeg a := ⟨_, rfl⟩
     obtain ⟨sb, hsb⟩ : ∃ s, s = isNeg b := ⟨_, rfl⟩
     have R' : Hid (sg (sa && sb) = ADDf a b) := by
      rw [hsa, hsb]
      show _ = _
      rw [← R.out]
      by_cases n1 : 2147483648 ≤ a <;> by_cases n2 : 2147483648 ≤ b <;> simp [sg, isNeg, n1, n2]
     rw [← hsa] at y2
     rw [← hsb] at z2
     subst c2
     clear hsa hsb R D
     cases sa <;> cases sb
     all_goals
      go_wp2_with (first | (go_at_call 73; refine (round_any _ _ _ _ (by omega) (by omega) (by omega) (by omega)).mono ?_; rintro e w' ⟨rfl, rfl⟩))
      go_ret
      refine ⟨congrArg Ending.returned (congrArg (Value.int IntKind.i64) ?_), BB.out⟩
      rw [← R'.out, RI_zero]; rfl
   · have R : Hid _ := k2 (by omega)
     have D : (Z == 0) = false := by simpa using c2
     clear k1 k2 k3 c2
     go_wp2_with (first | (go_at_call 73; refine (round_any _ _ _ _ (by omega) (by omega) (by omega) (by omega)).mono ?_; rintro e w' ⟨rfl, rfl⟩))
     go_ret
     refine ⟨congrArg Ending.returned (congrArg (Value.int IntKind.i64) ?_), BB.out⟩
     rw [← R.out]; simp [sg]
end Go.Proofs.YtoihkljlekknkaaGreat
/-
  What tutorref.Add answers where the second number has the greater power of 2: P2 by the document. Conditions: the patterns are 0 to 2^32 - 1.
-/
namespace Go.Proofs.YtoihkljlekknkaaGreat
open Go.RowKit
set_option linter.unusedVariables false
set_option linter.unusedSimpArgs false
/-- a box of a number: five cells that are there and may be written -/
structure Box (w : World) (B : Nat) (v0 v1 v2 v3 v4 : Value) : Prop where
 c0 : w.cell? ⟨B, 0, none⟩ = some v0
 c1 : w.cell? ⟨B, 1, none⟩ = some v1
 c2 : w.cell? ⟨B, 2, none⟩ = some v2
 c3 : w.cell? ⟨B, 3, none⟩ = some v3
 c4 : w.cell? ⟨B, 4, none⟩ = some v4
 f0 : w.frozen? ⟨B, 0, none⟩ = false
 f1 : w.frozen? ⟨B, 1, none⟩ = false
 f2 : w.frozen? ⟨B, 2, none⟩ = false
 f3 : w.frozen? ⟨B, 3, none⟩ = false
 f4 : w.frozen? ⟨B, 4, none⟩ = false
 lt : B < w.heap.size
theorem Box.keep {w w' : World} {B C : Nat} {v0 v1 v2 v3 v4 : Value} (b : Box w B v0 v1 v2 v3 v4) (h : Below C w w') (hC : B < C) : Box w' B v0 v1 v2 v3 v4 := by
 have hs := h.size
 have hl := b.lt
 exact ⟨by rw [h.cell (p := ⟨B, 0, none⟩) hC]; exact b.c0, by rw [h.cell (p := ⟨B, 1, none⟩) hC]; exact b.c1, by rw [h.cell (p := ⟨B, 2, none⟩) hC]; exact b.c2, by rw [h.cell (p := ⟨B, 3, none⟩) hC]; exact b.c3, by rw [h.cell (p := ⟨B, 4, none⟩) hC]; exact b.c4,
  by rw [h.frozen (p := ⟨B, 0, none⟩) hC]; exact b.f0, by rw [h.frozen (p := ⟨B, 1, none⟩) hC]; exact b.f1, by rw [h.frozen (p := ⟨B, 2, none⟩) hC]; exact b.f2, by rw [h.frozen (p := ⟨B, 3, none⟩) hC]; exact b.f3, by rw [h.frozen (p := ⟨B, 4, none⟩) hC]; exact b.f4, by omega⟩
theorem Box.new (w : World) (v0 v1 v2 v3 v4 : Value) : Box (w.alloc (.cells #[v0, v1, v2, v3, v4] 103)) w.heap.size v0 v1 v2 v3 v4 := by
 constructor <;> simp [go_sem]
theorem Box.alloc {w : World} {B : Nat} {v0 v1 v2 v3 v4 : Value} (b : Box w B v0 v1 v2 v3 v4) (o : Obj) : Box (w.alloc o) B v0 v1 v2 v3 v4 :=
 b.keep ((Below.refl w.heap.size w).alloc (Nat.le_refl _) o) b.lt
def put5 (w : World) (B : Nat) (v0 v1 v2 v3 v4 : Value) : World := ((((w.setCell ⟨B, 0, none⟩ v0).setCell ⟨B, 1, none⟩ v1).setCell ⟨B, 2, none⟩ v2).setCell ⟨B, 3, none⟩ v3).setCell ⟨B, 4, none⟩ v4
theorem Box.put {w : World} {B : Nat} {u0 u1 u2 u3 u4 : Value} (b : Box w B u0 u1 u2 u3 u4) (v0 v1 v2 v3 v4 : Value) : Box (put5 w B v0 v1 v2 v3 v4) B v0 v1 v2 v3 v4 := by
 obtain ⟨c0, c1, c2, c3, c4, f0, f1, f2, f3, f4, lt⟩ := b
 unfold put5
 constructor <;> simp [go_sem, c0, c1, c2, c3, c4, f0, f1, f2, f3, f4, lt]
theorem Box.putOther {w : World} {B C : Nat} {u0 u1 u2 u3 u4 : Value} (b : Box w B u0 u1 u2 u3 u4) (hC : C ≠ B) (v0 v1 v2 v3 v4 : Value) : Box (put5 w C v0 v1 v2 v3 v4) B u0 u1 u2 u3 u4 := by
 obtain ⟨c0, c1, c2, c3, c4, f0, f1, f2, f3, f4, lt⟩ := b
 unfold put5
 constructor <;> simp [go_sem, c0, c1, c2, c3, c4, f0, f1, f2, f3, f4, lt, hC]
theorem put5_below {w : World} {A B : Nat} (v0 v1 v2 v3 v4 : Value) (h : A ≤ B) : Below A w (put5 w B v0 v1 v2 v3 v4) :=
 (((((Below.refl A w).setCell h v0).setCell h v1).setCell h v2).setCell h v3).setCell h v4
set_option maxHeartbeats 1000000 in
theorem radd_8 (a b : Int) (w : World) (h0 : 0 ≤ a) (h1 : a < 4294967296) (g0 : 0 ≤ b) (g1 : b < 4294967296) (na : isNone a = false) (nb : isNone b = false) (ia : isInf a = false) (ib : isInf b = false)
 (fa : a % 2147483648 < 2139095040) (fb : b % 2147483648 < 2139095040) (hlt : exI a < exI b) :
 Calls Tryz.prog 45 #[.int .i64 a, .int .i64 b] w fun e w' => e = .returned (.int .i64 (ADDf a b)) ∧ Below w.heap.size w w' := by
 have E1 := ofM_fin a fa
 have E2 := ofE_fin a fa
 have E3 := ofM_fin b fb
 have E4 := ofE_fin b fb
 have xa := exI_bd a
 have xb := exI_bd b
 have ma := manI_bd a
 have mb := manI_bd b
 go_enter Tryz.func45, Tryz.ntmps45
 go_wp2_with fail
 refine (of_any _ _ h0 h1).mono ?_
 rintro e w1 ⟨rfl, hb1⟩
 unfold numV
 have s1 := hb1.size
 have HB1 : Hid _ := hb1
 clear hb1
 go_wp2_with fail
 refine (of_any _ _ g0 g1).mono ?_
 rintro e w2 ⟨rfl, hb2⟩
 unfold numV
 have X := (Box.new w1 _ _ _ _ _).keep hb2 (by simp)
 have HB2 : Hid _ := hb2
 have HX : Hid _ := X
 obtain ⟨x0, x1, x2, x3, x4, f0, f1, f2, f3, f4, s2⟩ := X
 clear hb2
 have t2 := s2
 go_wp2_with fail
 refine (of_any _ _ g0 g1).mono ?_
 rintro e w3 ⟨rfl, hb3⟩
 unfold numV
 have X := (HX.out.alloc _).keep hb3 (by rw [World.size_alloc]; have := HX.out.lt; omega)
 have Y := (Box.new w2 _ _ _ _ _).keep hb3 (by simp)
 have HB3 : Hid _ := hb3
 have HX3 : Hid _ := X
 have HY3 : Hid _ := Y
 clear hb3 x0 x1 x2 x3 x4 f0 f1 f2 f3 f4 s2 HX Y
 obtain ⟨x0, x1, x2, x3, x4, f0, f1, f2, f3, f4, s2⟩ := X
 go_wp2_with fail
 refine (of_any _ _ h0 h1).mono ?_
 rintro e w4 ⟨rfl, hb4⟩
 unfold numV
 have X := HX3.out.put (.bool false) (.bool false) (.bool (isNeg b)) (.int .i64 (manI b)) (.int .i64 (exI b))
 have hne : w1.heap.size ≠ w2.heap.size := by omega
 have Y := HY3.out.putOther hne (.bool false) (.bool false) (.bool (isNeg b)) (.int .i64 (manI b)) (.int .i64 (exI b))
 have B3 : Hid (Below w1.heap.size w3 _) := put5_below (.bool false) (.bool false) (.bool (isNeg b)) (.int .i64 (manI b)) (.int .i64 (exI b)) (Nat.le_refl _)
 have l3 := HX3.out.lt
 have l3' := HY3.out.lt
 have X := X.keep hb4 (by simp [World.size_setCell]; omega)
 have Y := Y.keep hb4 (by simp [World.size_setCell]; omega)
 have HB4 : Hid _ := hb4
 have HX4 : Hid _ := X
 have HY4 : Hid _ := Y
 clear hb4 x0 x1 x2 x3 x4 f0 f1 f2 f3 f4 s2 X HX3 HY3 l3 l3'
 obtain ⟨x0, x1, x2, x3, x4, f0, f1, f2, f3, f4, s2⟩ := HX4.out
 obtain ⟨y0, y1, y2, y3, y4, k0, k1, k2, k3, k4, s4⟩ := Y
 go_wp2_with fail
 refine (exact_any _ _ _ _ _ _ _ _ _ _ _ mb.1 mb.2 ma.1 ma.2 xa.1 (Int.le_of_lt hlt) xb.2).mono ?_
 rintro e w5 ⟨rfl, hb5⟩
 have X := HX4.out.putOther (Ne.symm hne) (.bool false) (.bool false) (.bool (isNeg a)) (.int .i64 (manI a)) (.int .i64 (exI a))
 have Y := HY4.out.put (.bool false) (.bool false) (.bool (isNeg a)) (.int .i64 (manI a)) (.int .i64 (exI a))
 have B4 : Hid (Below w2.heap.size w4 _) := put5_below (.bool false) (.bool false) (.bool (isNeg a)) (.int .i64 (manI a)) (.int .i64 (exI a)) (Nat.le_refl _)
 have X := X.keep hb5 (by simp [World.size_setCell]; omega)
 have Y := Y.keep hb5 (by simp [World.size_setCell]; omega)
 have q2 := X.c2
 have r2 := Y.c2
 have BB : Hid (Below w.heap.size w w5) := by
  have b1 := HB1.out.alloc s1 (.cells #[Value.bool false, Value.bool false, Value.bool (isNeg a), Value.int IntKind.i64 (manI a), Value.int IntKind.i64 (exI a)] 103)
  have b2 := (b1.trans (HB2.out.mono (by rw [World.size_alloc]; omega))).alloc (by omega) (.cells #[Value.bool false, Value.bool false, Value.bool (isNeg b), Value.int IntKind.i64 (manI b), Value.int IntKind.i64 (exI b)] 103)
  have b3 := b2.trans (HB3.out.mono (by rw [World.size_alloc]; omega))
  have b4 := b3.trans (B3.out.mono (by omega))
  have b5 := b4.trans (HB4.out.mono (by simp [World.size_setCell]; have := b3.size; omega))
  have b6 := b5.trans (B4.out.mono (by omega))
  exact b6.trans (hb5.mono (by simp [World.size_setCell]; have := b5.size; omega))
 clear hb5 X Y HB1 HB2 HB3 HB4 B3 B4 HX4 HY4 x0 x1 x2 x3 x4 f0 f1 f2 f3 f4 y0 y1 y2 y3 y4 k0 k1 k2 k3 k4
 obtain ⟨Z, hZ⟩ : ∃ Z, Z = exZ (ng (isNeg b) (manI b)) (ng (isNeg a) (manI a)) (exI b - exI a) := ⟨_, rfl⟩
 obtain ⟨F, hF⟩ : ∃ F, F = exF (ng (isNeg a) (manI a)) (exI b) (exI a) := ⟨_, rfl⟩
 obtain ⟨k1, k2, k3, k4, k5, k6, k7⟩ := exact_ok b a g0 g1 h0 h1 (by unfold sz; omega) (Int.le_of_lt hlt) Z F hZ hF
 rw [ADDf_comm b a] at k1 k2 k3
 rw [← hZ, ← hF]
 clear hZ hF
 by_cases c1 : Z < 0
 · have R : Hid _ := k1 c1
   clear k1 k2 k3
   go_wp2_with (first | (go_at_call 73; refine (round_any _ _ _ _ (by omega) (by omega) (by omega) (by omega)).mono ?_; rintro e w' ⟨rfl, rfl⟩))
   go_ret
   exact ⟨congrArg Ending.returned (congrArg (Value.int IntKind.i64) R.out), BB.out⟩
 · by_cases c2 : Z = 0
   · have R : Hid _ := k3 c2
     clear k1 k2 k3
     obtain ⟨sa, hsa⟩ : ∃ s, s = isNeg a := ⟨_, rfl⟩
     obtain ⟨sb, hsb⟩ : ∃ s, s = isNeg b := ⟨_, rfl⟩
     have R' : Hid (sg (sb && sa) = ADDf a b) := by
      rw [hsa, hsb]
      show _ = _
      rw [← R.out]
      by_cases n1 : 2147483648 ≤ a <;> by_cases n2 : 2147483648 ≤ b <;> simp [sg, isNeg, n1, n2]
     rw [← hsb] at q2
     rw [← hsa] at r2
     subst c2
     clear hsa hsb R
     cases sa <;> cases sb
     all_goals
      go_wp2_with (first | (go_at_call 73; refine (round_any _ _ _ _ (by omega) (by omega) (by omega) (by omega)).mono ?_; rintro e w' ⟨rfl, rfl⟩))
      go_ret
      refine ⟨congrArg Ending.returned (congrArg (Value.int IntKind.i64) ?_), BB.out⟩
      rw [← R'.out, RI_zero]; rfl
   · have R : Hid _ := k2 (by omega)
     have D : (Z == 0) = false := by simpa using c2
     clear k1 k2 k3 c2
     go_wp2_with (first | (go_at_call 73; refine (round_any _ _ _ _ (by omega) (by omega) (by omega) (by omega)).mono ?_; rintro e w' ⟨rfl, rfl⟩))
     go_ret
     refine ⟨congrArg Ending.returned (congrArg (Value.int IntKind.i64) ?_), BB.out⟩
     rw [← R.out]; simp [sg]
end Go.Proofs.YtoihkljlekknkaaGreat
/-
  What tutorref.Add and tutorref.Sub answer: the same as soft.Add and soft.Sub. Conditions: the patterns are 0 to 2^32 - 1.
-/
namespace Go.Proofs.YtoihkljlekknkaaGreat
open Go.RowKit
set_option linter.unusedVariables false
set_option linter.unusedSimpArgs false
theorem radd_any (a b : Int) (w : World) (h0 : 0 ≤ a) (h1 : a < 4294967296) (g0 : 0 ≤ b) (g1 : b < 4294967296) :
 Calls Tryz.prog 45 #[.int .i64 a, .int .i64 b] w fun e w' => e = .returned (.int .i64 (ADD a b)) ∧ Below w.heap.size w w' := by
 unfold ADD
 by_cases na : 2139095040 < a % 2147483648
 · rw [if_pos (.inl (isNone_t na))]; exact radd_1 a b w h0 h1 g0 g1 (isNone_t na)
 · have n1 := isNone_f na
   by_cases nb : 2139095040 < b % 2147483648
   · rw [if_pos (.inr (isNone_t nb))]; exact radd_2 a b w h0 h1 g0 g1 n1 (isNone_t nb)
   · have n2 := isNone_f nb
     rw [if_neg (by simp [n1, n2])]
     by_cases ia : a % 2147483648 = 2139095040
     · have i1 := isInf_t ia
       rw [if_pos i1]
       by_cases ib : b % 2147483648 = 2139095040
       · have i2 := isInf_t ib
         by_cases sa : 2147483648 ≤ a
         · by_cases sb : 2147483648 ≤ b
           · rw [if_neg (by omega)]; exact radd_4a a b w h0 h1 g0 g1 n1 n2 i1 i2 (isNeg_t sa) (isNeg_t sb)
           · rw [if_pos (by omega)]; exact radd_3a a b w h0 h1 g0 g1 n1 n2 i1 i2 (isNeg_t sa) (isNeg_f sb)
         · by_cases sb : 2147483648 ≤ b
           · rw [if_pos (by omega)]; exact radd_3b a b w h0 h1 g0 g1 n1 n2 i1 i2 (isNeg_f sa) (isNeg_t sb)
           · rw [if_neg (by omega)]; exact radd_4b a b w h0 h1 g0 g1 n1 n2 i1 i2 (isNeg_f sa) (isNeg_f sb)
       · rw [if_neg (by omega)]; exact radd_5 a b w h0 h1 g0 g1 n1 n2 i1 (isInf_f ib)
     · have i1 := isInf_f ia
       rw [if_neg (by simp [i1])]
       by_cases ib : b % 2147483648 = 2139095040
       · rw [if_pos (isInf_t ib)]; exact radd_6 a b w h0 h1 g0 g1 n1 n2 i1 (isInf_t ib)
       · have i2 := isInf_f ib
         rw [if_neg (by simp [i2])]
         by_cases hle : exI b ≤ exI a
         · exact radd_7 a b w h0 h1 g0 g1 n1 n2 i1 i2 (by omega) (by omega) hle
         · exact radd_8 a b w h0 h1 g0 g1 n1 n2 i1 i2 (by omega) (by omega) (by omega)
set_option maxHeartbeats 400000 in
theorem rturned_any (a : Int) (w : World) (h0 : 0 ≤ a) (h1 : a < 4294967296) :
 Calls Tryz.prog 79 #[.int .i64 a] w fun e w' => e = .returned (.int .i64 ((a + 2147483648) % 4294967296)) ∧ w' = w := by
 go_enter Tryz.func79, Tryz.ntmps79
 go_wp2
 go_ret
 exact ⟨rfl, rfl⟩
set_option maxHeartbeats 400000 in
theorem rsub_any (a b : Int) (w : World) (h0 : 0 ≤ a) (h1 : a < 4294967296) (g0 : 0 ≤ b) (g1 : b < 4294967296) :
 Calls Tryz.prog 43 #[.int .i64 a, .int .i64 b] w fun e w' => e = .returned (.int .i64 (SUB a b)) ∧ Below w.heap.size w w' := by
 unfold SUB
 go_enter Tryz.func43, Tryz.ntmps43
 go_wp2_with (first | (go_at_call 79; refine (rturned_any _ _ (by assumption) (by assumption)).mono ?_; rintro e w' ⟨rfl, rfl⟩))
 refine (radd_any _ _ _ h0 h1 (by omega) (by omega)).mono ?_
 rintro e w1 ⟨rfl, hb⟩
 go_wp2
 go_ret
 exact ⟨rfl, hb⟩
end Go.Proofs.YtoihkljlekknkaaGreat
/-
  What soft.Mul and soft.Div answer, for every two patterns: P3 of the document. No condition.
-/
namespace Go.Proofs.YtoihkljlekknkaaGreat
open Go.RowKit
set_option linter.unusedVariables false
set_option linter.unusedSimpArgs false
/-- P3 -/
def MUL (a b : Int) : Int :=
 if isNone a = true ∨ isNone b = true then 2143289344
 else if isInf a = true then (if isNil b = true then 2143289344 else sgn2 a b + 2139095040)
 else if isInf b = true then (if isNil a = true then 2143289344 else sgn2 a b + 2139095040)
 else sgn2 a b + RI (manI a * manI b) (exI a + exI b)
theorem sgn2_or (a b : Int) : sgn2 a b = 0 ∨ sgn2 a b = 2147483648 := by unfold sgn2; split <;> simp
theorem inf_not_nil {a : Int} (h : isInf a = true) : isNil a = false := by
 unfold isInf at h; unfold isNil
 have : a % 2147483648 = 2139095040 := by simpa using h
 rw [this]; rfl
theorem prod_bd (x y : Int) (hx : 0 ≤ x ∧ x < 16777216) (hy : 0 ≤ y ∧ y < 16777216) : 0 ≤ x * y ∧ x * y < 281474976710656 := by
 have := Int.mul_nonneg hx.1 hy.1
 have := Int.mul_le_mul (show x ≤ 16777215 by omega) (show y ≤ 16777215 by omega) hy.1 (by omega)
 omega
set_option maxHeartbeats 1000000 in
theorem mul_any (a b : Int) (w : World) (h0 : 0 ≤ a) (h1 : a < 4294967296) (g0 : 0 ≤ b) (g1 : b < 4294967296) :
 Calls Tryz.prog 61 #[.int .u32 a, .int .u32 b] w fun e w' => e = .returned (.int .u32 (MUL a b)) ∧ w' = w := by
 unfold MUL
 have sx := and_xor_sign a b h0 h1 g0 g1
 have so := sgn2_or a b
 have oi := or_sign (sgn2 a b) 2139095040 so (by omega) (by omega)
 cases na : isNone a
 · cases nb : isNone b
   · rw [if_neg (by simp)]
     cases ia : isInf a
     · rw [if_neg (by simp)]
       cases ib : isInf b
       · rw [if_neg (by simp)]
         have xa := exI_bd a
         have xb := exI_bd b
         have ma := manI_bd a
         have mb := manI_bd b
         have P := prod_bd (manI a) (manI b) ma mb
         have T := u64_small (manI a * manI b) P.1 (by omega)
         obtain ⟨M, hM⟩ : ∃ M, M = manI a * manI b := ⟨_, rfl⟩
         replace T := T.trans hM.symm
         rw [← hM] at P ⊢
         clear hM oi
         cases la : isNil a
         all_goals
          go_enter Tryz.func61, Tryz.ntmps61
          go_wp2_with (first | (go_at_call 91; refine (none_any _ _ (by assumption) (by assumption)).mono ?_; rintro e w' ⟨rfl, rfl⟩) | (go_at_call 92; refine (inf_any _ _ (by assumption) (by assumption)).mono ?_; rintro e w' ⟨rfl, rfl⟩) | (go_at_call 95; refine (nil_any _ _ (by assumption) (by assumption)).mono ?_; rintro e w' ⟨rfl, rfl⟩) | (go_at_call 99; refine (parts_any _ _ (by assumption) (by assumption)).mono ?_; rintro e w' ⟨rfl, rfl⟩) | (go_at_call 97; refine (rounded_any _ _ _ _ (by assumption) (by omega) (by omega) (by omega) (by omega)).mono ?_; rintro e w' ⟨rfl, rfl⟩))
          go_ret
          refine ⟨congrArg Ending.returned (congrArg (Value.int IntKind.u32) ?_), rfl⟩
          rfl
       · rw [if_pos rfl]
         cases la : isNil a
         · rw [if_neg (by simp)]
           go_enter Tryz.func61, Tryz.ntmps61
           go_wp2_with (first | (go_at_call 91; refine (none_any _ _ (by assumption) (by assumption)).mono ?_; rintro e w' ⟨rfl, rfl⟩) | (go_at_call 92; refine (inf_any _ _ (by assumption) (by assumption)).mono ?_; rintro e w' ⟨rfl, rfl⟩) | (go_at_call 95; refine (nil_any _ _ (by assumption) (by assumption)).mono ?_; rintro e w' ⟨rfl, rfl⟩))
           go_ret
           exact ⟨rfl, rfl⟩
         · rw [if_pos rfl]
           go_enter Tryz.func61, Tryz.ntmps61
           go_wp2_with (first | (go_at_call 91; refine (none_any _ _ (by assumption) (by assumption)).mono ?_; rintro e w' ⟨rfl, rfl⟩) | (go_at_call 92; refine (inf_any _ _ (by assumption) (by assumption)).mono ?_; rintro e w' ⟨rfl, rfl⟩) | (go_at_call 95; refine (nil_any _ _ (by assumption) (by assumption)).mono ?_; rintro e w' ⟨rfl, rfl⟩))
           go_ret
           exact ⟨rfl, rfl⟩
     · rw [if_pos rfl]
       have la := inf_not_nil ia
       cases lb : isNil b
       · rw [if_neg (by simp)]
         cases ib : isInf b
         all_goals
          go_enter Tryz.func61, Tryz.ntmps61
          go_wp2_with (first | (go_at_call 91; refine (none_any _ _ (by assumption) (by assumption)).mono ?_; rintro e w' ⟨rfl, rfl⟩) | (go_at_call 92; refine (inf_any _ _ (by assumption) (by assumption)).mono ?_; rintro e w' ⟨rfl, rfl⟩) | (go_at_call 95; refine (nil_any _ _ (by assumption) (by assumption)).mono ?_; rintro e w' ⟨rfl, rfl⟩))
          go_ret
          exact ⟨rfl, rfl⟩
       · rw [if_pos rfl]
         go_enter Tryz.func61, Tryz.ntmps61
         go_wp2_with (first | (go_at_call 91; refine (none_any _ _ (by assumption) (by assumption)).mono ?_; rintro e w' ⟨rfl, rfl⟩) | (go_at_call 92; refine (inf_any _ _ (by assumption) (by assumption)).mono ?_; rintro e w' ⟨rfl, rfl⟩) | (go_at_call 95; refine (nil_any _ _ (by assumption) (by assumption)).mono ?_; rintro e w' ⟨rfl, rfl⟩))
         go_ret
         exact ⟨rfl, rfl⟩
   · rw [if_pos (by simp)]
     go_enter Tryz.func61, Tryz.ntmps61
     go_wp2_with (first | (go_at_call 91; refine (none_any _ _ (by assumption) (by assumption)).mono ?_; rintro e w' ⟨rfl, rfl⟩) | (go_at_call 92; refine (inf_any _ _ (by assumption) (by assumption)).mono ?_; rintro e w' ⟨rfl, rfl⟩) | (go_at_call 95; refine (nil_any _ _ (by assumption) (by assumption)).mono ?_; rintro e w' ⟨rfl, rfl⟩))
     go_ret
     exact ⟨rfl, rfl⟩
 · rw [if_pos (by simp)]
   go_enter Tryz.func61, Tryz.ntmps61
   go_wp2_with (first | (go_at_call 91; refine (none_any _ _ (by assumption) (by assumption)).mono ?_; rintro e w' ⟨rfl, rfl⟩) | (go_at_call 92; refine (inf_any _ _ (by assumption) (by assumption)).mono ?_; rintro e w' ⟨rfl, rfl⟩) | (go_at_call 95; refine (nil_any _ _ (by assumption) (by assumption)).mono ?_; rintro e w' ⟨rfl, rfl⟩))
   go_ret
   exact ⟨rfl, rfl⟩
/-- a quotient of two finite numbers that are not noughts -/
def upI (a : Int) : Int := 64 - bl (manI a).toNat
def topI (a : Int) : Int := manI a * 2 ^ (upI a).toNat
def DQ (a b : Int) : Int := RI (stick (topI a / manI b) (topI a % manI b)) (exI a - upI a - exI b)
theorem bl_man (a : Int) : bl (manI a).toNat ≤ 24 := by
 have := manI_bd a
 by_cases hz : (manI a).toNat = 0
 · rw [hz]; decide
 · have h2 := bl_le _ hz
   have h3 : 2 ^ (bl (manI a).toNat - 1) < 2 ^ 24 := by omega
   have := (Nat.pow_lt_pow_iff_right (by decide : 1 < 2)).1 h3
   omega
theorem upI_bd (a : Int) : 40 ≤ upI a ∧ upI a ≤ 64 := by
 have := bl_man a
 unfold upI
 omega
theorem topI_bd (a : Int) (h : manI a ≠ 0) : 9223372036854775808 ≤ topI a ∧ topI a < 18446744073709551616 := by
 have hm := manI_bd a
 have hu := upI_bd a
 unfold topI
 obtain ⟨n, hn⟩ : ∃ n : Nat, manI a = n := ⟨(manI a).toNat, by omega⟩
 have e : (n : Int) * 2 ^ (upI a).toNat = ((n * 2 ^ (upI a).toNat : Nat) : Int) := by push_cast; rfl
 have hb : upI a = 64 - bl n := by unfold upI; rw [hn, Int.toNat_natCast]
 have h1 := bl_lt n
 have h2 := bl_le n (by omega)
 rw [hn, e]
 have hp := pow_pos' (upI a).toNat
 have a1 := Nat.mul_lt_mul_of_pos_right h1 hp
 have a2 := Nat.mul_le_mul_right (2 ^ (upI a).toNat) h2
 rw [← Nat.pow_add] at a1 a2
 have hbl : bl n ≠ 0 := by unfold bl; split <;> omega
 rw [show bl n + (upI a).toNat = 64 from by omega] at a1
 rw [show bl n - 1 + (upI a).toNat = 63 from by omega] at a2
 omega
theorem stick_bd (q r : Int) (h : 0 ≤ q) (h' : q < 18446744073709551616) : 0 ≤ stick q r ∧ stick q r < 18446744073709551616 := by unfold stick; split <;> (try split) <;> omega
theorem i64_small (x : Int) (h0 : -9223372036854775808 ≤ x) (h1 : x ≤ 9223372036854775807) : IntKind.i64.wrap x = x := by rw [IntKind.wrap_i64]; omega
set_option maxHeartbeats 1000000 in
theorem quotient_any (s a b : Int) (w : World) (hs : s = 0 ∨ s = 2147483648) (h0 : 0 ≤ a) (h1 : a < 4294967296) (g0 : 0 ≤ b) (g1 : b < 4294967296) (ma : manI a ≠ 0) (mb : manI b ≠ 0) :
 Calls Tryz.prog 96 #[.int .u32 s, .int .u32 a, .int .u32 b] w fun e w' => e = .returned (.int .u32 (s + DQ a b)) ∧ ∃ n, w' = w.drewN n := by
 unfold DQ
 have xa := exI_bd a
 have xb := exI_bd b
 have m1 := manI_bd a
 have m2 := manI_bd b
 have hu := upI_bd a
 have hbl := bl_man a
 have ht := topI_bd a ma
 have T : IntKind.u64.wrap (manI a * 2 ^ (64 - bl (manI a).toNat)) = topI a := by
  have e : topI a = manI a * 2 ^ (64 - bl (manI a).toNat) := by unfold topI upI; rw [show (64 - (bl (manI a).toNat : Int)).toNat = 64 - bl (manI a).toNat from by omega]
  rw [← e]; exact u64_small (topI a) (by omega) (by omega)
 have hq0 : 0 ≤ topI a / manI b := Int.ediv_nonneg (by omega) (by omega)
 have hq1 : topI a / manI b ≤ topI a := Int.ediv_le_self _ (by omega)
 have hr0 : 0 ≤ topI a % manI b := Int.emod_nonneg _ (by omega)
 have hr1 : topI a % manI b < manI b := Int.emod_lt_of_pos _ (by omega)
 have ho := or_bit (topI a / manI b) (topI a % manI b) hq0 (by omega) hr0
 have hst := stick_bd (topI a / manI b) (topI a % manI b) hq0 (by omega)
 have e1 : (topI a).tdiv (manI b) = topI a / manI b := Int.tdiv_eq_ediv_of_nonneg (by omega)
 have e2 : (topI a).tmod (manI b) = topI a % manI b := Int.tmod_eq_emod_of_nonneg (by omega)
 have mp : 0 < manI b := by omega
 have e3 := u64_small (topI a / manI b) hq0 (by omega)
 have e4 : upI a = 64 - bl (manI a).toNat := rfl
 have e5 := i64_small (exI a - (64 - (bl (manI a).toNat : Int))) (by omega) (by omega)
 have e6 := i64_small (exI a - (64 - (bl (manI a).toNat : Int)) - exI b) (by omega) (by omega)
 go_enter Tryz.func96, Tryz.ntmps96
 go_wp2_with (first | (go_at_call 99; refine (parts_any _ _ (by assumption) (by assumption)).mono ?_; rintro e w' ⟨rfl, rfl⟩) | (go_at_call 100; refine (lz64_any _ _ (by omega) (by omega)).mono ?_; rintro e w' ⟨rfl, rfl⟩))
 go_quiet (first | (go_at_call 102; exact Calls.quiet_of_same (sticky_any _ _ (by omega) (by omega))) | (go_at_call 97; exact Calls.quiet_of_same (rounded_any _ _ _ _ hs (by omega) (by omega) (by omega) (by omega))))
 go_wp2
 go_ret
 exact ⟨congrArg Ending.returned (congrArg (Value.int IntKind.u32) rfl), _, rfl⟩
/-- P3 -/
def DIV (a b : Int) : Int :=
 if isNone a = true ∨ isNone b = true then 2143289344
 else if isInf a = true then (if isInf b = true then 2143289344 else sgn2 a b + 2139095040)
 else if isNil b = true then (if isNil a = true then 2143289344 else sgn2 a b + 2139095040)
 else if isInf b = true ∨ isNil a = true then sgn2 a b
 else sgn2 a b + DQ a b
theorem man_of_nil {a : Int} (h : isNil a = false) (h' : isNone a = false) : manI a ≠ 0 := by
 have : ¬ a % 2147483648 = 0 := by unfold isNil at h; simpa using h
 unfold manI; split <;> omega
set_option maxHeartbeats 1000000 in
theorem div_any (a b : Int) (w : World) (h0 : 0 ≤ a) (h1 : a < 4294967296) (g0 : 0 ≤ b) (g1 : b < 4294967296) :
 Calls Tryz.prog 58 #[.int .u32 a, .int .u32 b] w fun e w' => e = .returned (.int .u32 (DIV a b)) ∧ ∃ n, w' = w.drewN n := by
 unfold DIV
 have sx := and_xor_sign a b h0 h1 g0 g1
 have so := sgn2_or a b
 have oi := or_sign (sgn2 a b) 2139095040 so (by omega) (by omega)
 cases na : isNone a
 · cases nb : isNone b
   · rw [if_neg (by simp)]
     cases ia : isInf a
     · rw [if_neg (by simp)]
       cases lb : isNil b
       · rw [if_neg (by simp)]
         cases ib : isInf b
         · cases la : isNil a
           · rw [if_neg (by simp)]
             have ma := man_of_nil la na
             have mb := man_of_nil lb nb
             clear oi
             have MA : Hid _ := ma
             have MB : Hid _ := mb
             clear ma mb
             go_enter Tryz.func58, Tryz.ntmps58
             go_wp2_with (first | (go_at_call 91; refine (none_any _ _ (by assumption) (by assumption)).mono ?_; rintro e w' ⟨rfl, rfl⟩) | (go_at_call 92; refine (inf_any _ _ (by assumption) (by assumption)).mono ?_; rintro e w' ⟨rfl, rfl⟩) | (go_at_call 95; refine (nil_any _ _ (by assumption) (by assumption)).mono ?_; rintro e w' ⟨rfl, rfl⟩) | (go_at_call 96; refine (quotient_any _ _ _ _ (by assumption) (by assumption) (by assumption) (by assumption) (by assumption) MA.out MB.out).mono ?_; rintro e w' ⟨rfl, n, rfl⟩))
             go_ret
             refine ⟨congrArg Ending.returned (congrArg (Value.int IntKind.u32) ?_), _, rfl⟩
             rfl
           · rw [if_pos (by simp)]
             go_enter Tryz.func58, Tryz.ntmps58
             go_wp2_with (first | (go_at_call 91; refine (none_any _ _ (by assumption) (by assumption)).mono ?_; rintro e w' ⟨rfl, rfl⟩) | (go_at_call 92; refine (inf_any _ _ (by assumption) (by assumption)).mono ?_; rintro e w' ⟨rfl, rfl⟩) | (go_at_call 95; refine (nil_any _ _ (by assumption) (by assumption)).mono ?_; rintro e w' ⟨rfl, rfl⟩))
             go_ret
             exact ⟨rfl, 0, rfl⟩
         · rw [if_pos (by simp)]
           cases la : isNil a
           all_goals
            go_enter Tryz.func58, Tryz.ntmps58
            go_wp2_with (first | (go_at_call 91; refine (none_any _ _ (by assumption) (by assumption)).mono ?_; rintro e w' ⟨rfl, rfl⟩) | (go_at_call 92; refine (inf_any _ _ (by assumption) (by assumption)).mono ?_; rintro e w' ⟨rfl, rfl⟩) | (go_at_call 95; refine (nil_any _ _ (by assumption) (by assumption)).mono ?_; rintro e w' ⟨rfl, rfl⟩))
            go_ret
            exact ⟨rfl, 0, rfl⟩
       · rw [if_pos rfl]
         cases la : isNil a
         · rw [if_neg (by simp)]
           go_enter Tryz.func58, Tryz.ntmps58
           go_wp2_with (first | (go_at_call 91; refine (none_any _ _ (by assumption) (by assumption)).mono ?_; rintro e w' ⟨rfl, rfl⟩) | (go_at_call 92; refine (inf_any _ _ (by assumption) (by assumption)).mono ?_; rintro e w' ⟨rfl, rfl⟩) | (go_at_call 95; refine (nil_any _ _ (by assumption) (by assumption)).mono ?_; rintro e w' ⟨rfl, rfl⟩))
           go_ret
           exact ⟨rfl, 0, rfl⟩
         · rw [if_pos rfl]
           go_enter Tryz.func58, Tryz.ntmps58
           go_wp2_with (first | (go_at_call 91; refine (none_any _ _ (by assumption) (by assumption)).mono ?_; rintro e w' ⟨rfl, rfl⟩) | (go_at_call 92; refine (inf_any _ _ (by assumption) (by assumption)).mono ?_; rintro e w' ⟨rfl, rfl⟩) | (go_at_call 95; refine (nil_any _ _ (by assumption) (by assumption)).mono ?_; rintro e w' ⟨rfl, rfl⟩))
           go_ret
           exact ⟨rfl, 0, rfl⟩
     · rw [if_pos rfl]
       have la := inf_not_nil ia
       cases ib : isInf b
       · rw [if_neg (by simp)]
         go_enter Tryz.func58, Tryz.ntmps58
         go_wp2_with (first | (go_at_call 91; refine (none_any _ _ (by assumption) (by assumption)).mono ?_; rintro e w' ⟨rfl, rfl⟩) | (go_at_call 92; refine (inf_any _ _ (by assumption) (by assumption)).mono ?_; rintro e w' ⟨rfl, rfl⟩) | (go_at_call 95; refine (nil_any _ _ (by assumption) (by assumption)).mono ?_; rintro e w' ⟨rfl, rfl⟩))
         go_ret
         exact ⟨rfl, 0, rfl⟩
       · rw [if_pos rfl]
         go_enter Tryz.func58, Tryz.ntmps58
         go_wp2_with (first | (go_at_call 91; refine (none_any _ _ (by assumption) (by assumption)).mono ?_; rintro e w' ⟨rfl, rfl⟩) | (go_at_call 92; refine (inf_any _ _ (by assumption) (by assumption)).mono ?_; rintro e w' ⟨rfl, rfl⟩) | (go_at_call 95; refine (nil_any _ _ (by assumption) (by assumption)).mono ?_; rintro e w' ⟨rfl, rfl⟩))
         go_ret
         exact ⟨rfl, 0, rfl⟩
   · rw [if_pos (by simp)]
     go_enter Tryz.func58, Tryz.ntmps58
     go_wp2_with (first | (go_at_call 91; refine (none_any _ _ (by assumption) (by assumption)).mono ?_; rintro e w' ⟨rfl, rfl⟩) | (go_at_call 92; refine (inf_any _ _ (by assumption) (by assumption)).mono ?_; rintro e w' ⟨rfl, rfl⟩) | (go_at_call 95; refine (nil_any _ _ (by assumption) (by assumption)).mono ?_; rintro e w' ⟨rfl, rfl⟩))
     go_ret
     exact ⟨rfl, 0, rfl⟩
 · rw [if_pos (by simp)]
   go_enter Tryz.func58, Tryz.ntmps58
   go_wp2_with (first | (go_at_call 91; refine (none_any _ _ (by assumption) (by assumption)).mono ?_; rintro e w' ⟨rfl, rfl⟩) | (go_at_call 92; refine (inf_any _ _ (by assumption) (by assumption)).mono ?_; rintro e w' ⟨rfl, rfl⟩) | (go_at_call 95; refine (nil_any _ _ (by assumption) (by assumption)).mono ?_; rintro e w' ⟨rfl, rfl⟩))
   go_ret
   exact ⟨rfl, 0, rfl⟩
end Go.Proofs.YtoihkljlekknkaaGreat
/-
  What tutorref.Mul answers: the same as soft.Mul. Conditions: the patterns are 0 to 2^32 - 1.
-/
namespace Go.Proofs.YtoihkljlekknkaaGreat
open Go.RowKit
set_option linter.unusedVariables false
set_option linter.unusedSimpArgs false
theorem sgn2_sg (a b : Int) (h0 : 0 ≤ a) (h1 : a < 4294967296) (g0 : 0 ≤ b) (g1 : b < 4294967296) : sgn2 a b = sg (isNeg a != isNeg b) := by
 unfold sgn2
 by_cases ha : 2147483648 ≤ a
 · rw [isNeg_t ha]
   by_cases hb : 2147483648 ≤ b
   · rw [isNeg_t hb, if_pos (by omega)]; rfl
   · rw [isNeg_f hb, if_neg (by omega)]; rfl
 · rw [isNeg_f ha]
   by_cases hb : 2147483648 ≤ b
   · rw [isNeg_t hb, if_neg (by omega)]; rfl
   · rw [isNeg_f hb, if_pos (by omega)]; rfl
theorem nil_man (a : Int) (n : isNone a = false) (i : isInf a = false) : (ofM a == 0) = isNil a := by
 have h1 : ¬ 2139095040 < a % 2147483648 := by unfold isNone at n; simpa using n
 have h2 : ¬ a % 2147483648 = 2139095040 := by unfold isInf at i; simpa using i
 rw [ofM_fin a (by omega)]
 unfold isNil manI
 split
 · rfl
 · rw [Bool.eq_iff_iff]; simp only [beq_iff_eq]; omega
set_option maxHeartbeats 1000000 in
theorem rmul_1 (a b : Int) (w : World) (h0 : 0 ≤ a) (h1 : a < 4294967296) (g0 : 0 ≤ b) (g1 : b < 4294967296) (na : isNone a = true) :
 Calls Tryz.prog 39 #[.int .i64 a, .int .i64 b] w fun e w' => e = .returned (.int .i64 (2143289344)) ∧ Below w.heap.size w w' := by
 go_enter Tryz.func39, Tryz.ntmps39
 go_wp2_with fail
 refine (of_any _ _ h0 h1).mono ?_
 rintro e w1 ⟨rfl, hb1⟩
 unfold numV
 have s1 := hb1.size
 have HB1 : Hid _ := hb1
 clear hb1
 go_wp2_with fail
 refine (of_any _ _ g0 g1).mono ?_
 rintro e w2 ⟨rfl, hb2⟩
 unfold numV
 obtain ⟨x0, x1, x2, x3, x4, f0, f1, f2, f3, f4, s2⟩ := box_cells hb2
 have HB2 : Hid _ := hb2
 clear hb2
 go_wp2_with fail
 go_ret
 exact ⟨rfl, ((HB1.out.alloc s1 _).trans (HB2.out.mono (by rw [World.size_alloc]; omega))).alloc (by omega) _⟩
set_option maxHeartbeats 1000000 in
theorem rmul_2 (a b : Int) (w : World) (h0 : 0 ≤ a) (h1 : a < 4294967296) (g0 : 0 ≤ b) (g1 : b < 4294967296) (na : isNone a = false) (nb : isNone b = true) :
 Calls Tryz.prog 39 #[.int .i64 a, .int .i64 b] w fun e w' => e = .returned (.int .i64 (2143289344)) ∧ Below w.heap.size w w' := by
 go_enter Tryz.func39, Tryz.ntmps39
 go_wp2_with fail
 refine (of_any _ _ h0 h1).mono ?_
 rintro e w1 ⟨rfl, hb1⟩
 unfold numV
 have s1 := hb1.size
 have HB1 : Hid _ := hb1
 clear hb1
 go_wp2_with fail
 refine (of_any _ _ g0 g1).mono ?_
 rintro e w2 ⟨rfl, hb2⟩
 unfold numV
 obtain ⟨x0, x1, x2, x3, x4, f0, f1, f2, f3, f4, s2⟩ := box_cells hb2
 have HB2 : Hid _ := hb2
 clear hb2
 go_wp2_with fail
 go_ret
 exact ⟨rfl, ((HB1.out.alloc s1 _).trans (HB2.out.mono (by rw [World.size_alloc]; omega))).alloc (by omega) _⟩
set_option maxHeartbeats 1000000 in
theorem rmul_3 (a b : Int) (w : World) (h0 : 0 ≤ a) (h1 : a < 4294967296) (g0 : 0 ≤ b) (g1 : b < 4294967296) (na : isNone a = false) (nb : isNone b = false) (ia : isInf a = true) (ib : isInf b = true) :
 Calls Tryz.prog 39 #[.int .i64 a, .int .i64 b] w fun e w' => e = .returned (.int .i64 (2139095040 + sg (isNeg a != isNeg b))) ∧ Below w.heap.size w w' := by
 go_enter Tryz.func39, Tryz.ntmps39
 go_wp2_with fail
 refine (of_any _ _ h0 h1).mono ?_
 rintro e w1 ⟨rfl, hb1⟩
 unfold numV
 have s1 := hb1.size
 have HB1 : Hid _ := hb1
 clear hb1
 go_wp2_with fail
 refine (of_any _ _ g0 g1).mono ?_
 rintro e w2 ⟨rfl, hb2⟩
 unfold numV
 obtain ⟨x0, x1, x2, x3, x4, f0, f1, f2, f3, f4, s2⟩ := box_cells hb2
 have HB2 : Hid _ := hb2
 clear hb2
 go_wp2_with (first | (go_at_call 72; refine (signed_any _ _ _ (by omega) (by omega)).mono ?_; rintro e w' ⟨rfl, rfl⟩))
 go_ret
 exact ⟨rfl, ((HB1.out.alloc s1 _).trans (HB2.out.mono (by rw [World.size_alloc]; omega))).alloc (by omega) _⟩
set_option maxHeartbeats 1000000 in
theorem rmul_4 (a b : Int) (w : World) (h0 : 0 ≤ a) (h1 : a < 4294967296) (g0 : 0 ≤ b) (g1 : b < 4294967296) (na : isNone a = false) (nb : isNone b = false) (ia : isInf a = true) (ib : isInf b = false) (mb : (ofM b == 0) = false) :
 Calls Tryz.prog 39 #[.int .i64 a, .int .i64 b] w fun e w' => e = .returned (.int .i64 (2139095040 + sg (isNeg a != isNeg b))) ∧ Below w.heap.size w w' := by
 go_enter Tryz.func39, Tryz.ntmps39
 go_wp2_with fail
 refine (of_any _ _ h0 h1).mono ?_
 rintro e w1 ⟨rfl, hb1⟩
 unfold numV
 have s1 := hb1.size
 have HB1 : Hid _ := hb1
 clear hb1
 go_wp2_with fail
 refine (of_any _ _ g0 g1).mono ?_
 rintro e w2 ⟨rfl, hb2⟩
 unfold numV
 obtain ⟨x0, x1, x2, x3, x4, f0, f1, f2, f3, f4, s2⟩ := box_cells hb2
 have HB2 : Hid _ := hb2
 clear hb2
 go_wp2_with (first | (go_at_call 72; refine (signed_any _ _ _ (by omega) (by omega)).mono ?_; rintro e w' ⟨rfl, rfl⟩))
 go_ret
 exact ⟨rfl, ((HB1.out.alloc s1 _).trans (HB2.out.mono (by rw [World.size_alloc]; omega))).alloc (by omega) _⟩
set_option maxHeartbeats 1000000 in
theorem rmul_5 (a b : Int) (w : World) (h0 : 0 ≤ a) (h1 : a < 4294967296) (g0 : 0 ≤ b) (g1 : b < 4294967296) (na : isNone a = false) (nb : isNone b = false) (ia : isInf a = false) (ib : isInf b = true) (ma : (ofM a == 0) = false) :
 Calls Tryz.prog 39 #[.int .i64 a, .int .i64 b] w fun e w' => e = .returned (.int .i64 (2139095040 + sg (isNeg a != isNeg b))) ∧ Below w.heap.size w w' := by
 go_enter Tryz.func39, Tryz.ntmps39
 go_wp2_with fail
 refine (of_any _ _ h0 h1).mono ?_
 rintro e w1 ⟨rfl, hb1⟩
 unfold numV
 have s1 := hb1.size
 have HB1 : Hid _ := hb1
 clear hb1
 go_wp2_with fail
 refine (of_any _ _ g0 g1).mono ?_
 rintro e w2 ⟨rfl, hb2⟩
 unfold numV
 obtain ⟨x0, x1, x2, x3, x4, f0, f1, f2, f3, f4, s2⟩ := box_cells hb2
 have HB2 : Hid _ := hb2
 clear hb2
 go_wp2_with (first | (go_at_call 72; refine (signed_any _ _ _ (by omega) (by omega)).mono ?_; rintro e w' ⟨rfl, rfl⟩))
 go_ret
 exact ⟨rfl, ((HB1.out.alloc s1 _).trans (HB2.out.mono (by rw [World.size_alloc]; omega))).alloc (by omega) _⟩
set_option maxHeartbeats 1000000 in
theorem rmul_6 (a b : Int) (w : World) (h0 : 0 ≤ a) (h1 : a < 4294967296) (g0 : 0 ≤ b) (g1 : b < 4294967296) (na : isNone a = false) (nb : isNone b = false) (ia : isInf a = true) (ib : isInf b = false) (mb : (ofM b == 0) = true) :
 Calls Tryz.prog 39 #[.int .i64 a, .int .i64 b] w fun e w' => e = .returned (.int .i64 (2143289344)) ∧ Below w.heap.size w w' := by
 go_enter Tryz.func39, Tryz.ntmps39
 go_wp2_with fail
 refine (of_any _ _ h0 h1).mono ?_
 rintro e w1 ⟨rfl, hb1⟩
 unfold numV
 have s1 := hb1.size
 have HB1 : Hid _ := hb1
 clear hb1
 go_wp2_with fail
 refine (of_any _ _ g0 g1).mono ?_
 rintro e w2 ⟨rfl, hb2⟩
 unfold numV
 obtain ⟨x0, x1, x2, x3, x4, f0, f1, f2, f3, f4, s2⟩ := box_cells hb2
 have HB2 : Hid _ := hb2
 clear hb2
 go_wp2_with fail
 go_ret
 exact ⟨rfl, ((HB1.out.alloc s1 _).trans (HB2.out.mono (by rw [World.size_alloc]; omega))).alloc (by omega) _⟩
set_option maxHeartbeats 1000000 in
theorem rmul_7 (a b : Int) (w : World) (h0 : 0 ≤ a) (h1 : a < 4294967296) (g0 : 0 ≤ b) (g1 : b < 4294967296) (na : isNone a = false) (nb : isNone b = false) (ia : isInf a = false) (ib : isInf b = true) (ma : (ofM a == 0) = true) :
 Calls Tryz.prog 39 #[.int .i64 a, .int .i64 b] w fun e w' => e = .returned (.int .i64 (2143289344)) ∧ Below w.heap.size w w' := by
 go_enter Tryz.func39, Tryz.ntmps39
 go_wp2_with fail
 refine (of_any _ _ h0 h1).mono ?_
 rintro e w1 ⟨rfl, hb1⟩
 unfold numV
 have s1 := hb1.size
 have HB1 : Hid _ := hb1
 clear hb1
 go_wp2_with fail
 refine (of_any _ _ g0 g1).mono ?_
 rintro e w2 ⟨rfl, hb2⟩
 unfold numV
 obtain ⟨x0, x1, x2, x3, x4, f0, f1, f2, f3, f4, s2⟩ := box_cells hb2
 have HB2 : Hid _ := hb2
 clear hb2
 go_wp2_with fail
 go_ret
 exact ⟨rfl, ((HB1.out.alloc s1 _).trans (HB2.out.mono (by rw [World.size_alloc]; omega))).alloc (by omega) _⟩
set_option maxHeartbeats 1000000 in
theorem rmul_8 (a b : Int) (w : World) (h0 : 0 ≤ a) (h1 : a < 4294967296) (g0 : 0 ≤ b) (g1 : b < 4294967296) (na : isNone a = false) (nb : isNone b = false) (ia : isInf a = false) (ib : isInf b = false)
 (fa : a % 2147483648 < 2139095040) (fb : b % 2147483648 < 2139095040) :
 Calls Tryz.prog 39 #[.int .i64 a, .int .i64 b] w fun e w' => e = .returned (.int .i64 (RI (manI a * manI b) (exI a + exI b) + sg (isNeg a != isNeg b))) ∧ Below w.heap.size w w' := by
 have E1 := ofM_fin a fa
 have E2 := ofE_fin a fa
 have E3 := ofM_fin b fb
 have E4 := ofE_fin b fb
 have xa := exI_bd a
 have xb := exI_bd b
 have ma := manI_bd a
 have mb := manI_bd b
 have P := prod_bd (manI a) (manI b) ma mb
 have T := w64 (manI a * manI b) (by omega)
 obtain ⟨M, hM⟩ : ∃ M, M = manI a * manI b := ⟨_, rfl⟩
 replace T := T.trans hM.symm
 rw [← hM] at P ⊢
 have T2 : manI a * manI b = M := hM.symm
 clear hM
 go_enter Tryz.func39, Tryz.ntmps39
 go_wp2_with fail
 refine (of_any _ _ h0 h1).mono ?_
 rintro e w1 ⟨rfl, hb1⟩
 unfold numV
 have s1 := hb1.size
 have HB1 : Hid _ := hb1
 clear hb1
 go_wp2_with fail
 refine (of_any _ _ g0 g1).mono ?_
 rintro e w2 ⟨rfl, hb2⟩
 unfold numV
 obtain ⟨x0, x1, x2, x3, x4, f0, f1, f2, f3, f4, s2⟩ := box_cells hb2
 have HB2 : Hid _ := hb2
 clear hb2
 go_wp2_with (first | (go_at_call 73; refine (round_any _ _ _ _ (by omega) (by omega) (by omega) (by omega)).mono ?_; rintro e w' ⟨rfl, rfl⟩))
 go_ret
 exact ⟨rfl, ((HB1.out.alloc s1 _).trans (HB2.out.mono (by rw [World.size_alloc]; omega))).alloc (by omega) _⟩
theorem rmul_any (a b : Int) (w : World) (h0 : 0 ≤ a) (h1 : a < 4294967296) (g0 : 0 ≤ b) (g1 : b < 4294967296) :
 Calls Tryz.prog 39 #[.int .i64 a, .int .i64 b] w fun e w' => e = .returned (.int .i64 (MUL a b)) ∧ Below w.heap.size w w' := by
 unfold MUL
 rw [sgn2_sg a b h0 h1 g0 g1, Int.add_comm (sg _) 2139095040, Int.add_comm (sg _) (RI _ _)]
 cases na : isNone a
 · cases nb : isNone b
   · rw [if_neg (by simp)]
     cases ia : isInf a
     · rw [if_neg (by simp)]
       cases ib : isInf b
       · rw [if_neg (by simp)]
         have n1 : ¬ 2139095040 < a % 2147483648 := by unfold isNone at na; simpa using na
         have n2 : ¬ 2139095040 < b % 2147483648 := by unfold isNone at nb; simpa using nb
         have i1 : ¬ a % 2147483648 = 2139095040 := by unfold isInf at ia; simpa using ia
         have i2 : ¬ b % 2147483648 = 2139095040 := by unfold isInf at ib; simpa using ib
         exact rmul_8 a b w h0 h1 g0 g1 na nb ia ib (by omega) (by omega)
       · rw [if_pos rfl]
         have hm := nil_man a na ia
         cases la : isNil a
         · rw [la] at hm; rw [if_neg (by simp)]; exact rmul_5 a b w h0 h1 g0 g1 na nb ia ib hm
         · rw [la] at hm; rw [if_pos rfl]; exact rmul_7 a b w h0 h1 g0 g1 na nb ia ib hm
     · rw [if_pos rfl]
       cases ib : isInf b
       · have hm := nil_man b nb ib
         cases lb : isNil b
         · rw [lb] at hm; rw [if_neg (by simp)]; exact rmul_4 a b w h0 h1 g0 g1 na nb ia ib hm
         · rw [lb] at hm; rw [if_pos rfl]; exact rmul_6 a b w h0 h1 g0 g1 na nb ia ib hm
       · rw [inf_not_nil ib, if_neg (by simp)]; exact rmul_3 a b w h0 h1 g0 g1 na nb ia ib
   · rw [if_pos (by simp)]; exact rmul_2 a b w h0 h1 g0 g1 na nb
 · rw [if_pos (by simp)]; exact rmul_1 a b w h0 h1 g0 g1 na
end Go.Proofs.YtoihkljlekknkaaGreat
