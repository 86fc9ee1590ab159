/-
  What tutorref.Add answers where the second number has the greater power of 2: P2 by the document. Conditions: the patterns are 0 to 2^32 - 1.
-/
import Derived.Test.YtkncmjnakjkndaaRefAdd
namespace Go.Proofs.Ytkncmjnakjkndaa
open Go.RowKit
set_option linter.unusedVariables false
set_option linter.unusedSimpArgs false
/-- a box of a number: five cells that are there and may be written -/
structure Box (w : World) (B : Nat) (v0 v1 v2 v3 v4 : Value) : Prop where
  c0 : w.cell? ⟨B, 0, none⟩ = some v0
  c1 : w.cell? ⟨B, 1, none⟩ = some v1
  c2 : w.cell? ⟨B, 2, none⟩ = some v2
  c3 : w.cell? ⟨B, 3, none⟩ = some v3
  c4 : w.cell? ⟨B, 4, none⟩ = some v4
  f0 : w.frozen? ⟨B, 0, none⟩ = false
  f1 : w.frozen? ⟨B, 1, none⟩ = false
  f2 : w.frozen? ⟨B, 2, none⟩ = false
  f3 : w.frozen? ⟨B, 3, none⟩ = false
  f4 : w.frozen? ⟨B, 4, none⟩ = false
  lt : B < w.heap.size
theorem Box.keep {w w' : World} {B C : Nat} {v0 v1 v2 v3 v4 : Value} (b : Box w B v0 v1 v2 v3 v4) (h : Below C w w') (hC : B < C) : Box w' B v0 v1 v2 v3 v4 := by
  have hs := h.size
  have hl := b.lt
  exact ⟨by rw [h.cell (p := ⟨B, 0, none⟩) hC]; exact b.c0, by rw [h.cell (p := ⟨B, 1, none⟩) hC]; exact b.c1, by rw [h.cell (p := ⟨B, 2, none⟩) hC]; exact b.c2, by rw [h.cell (p := ⟨B, 3, none⟩) hC]; exact b.c3, by rw [h.cell (p := ⟨B, 4, none⟩) hC]; exact b.c4,
    by rw [h.frozen (p := ⟨B, 0, none⟩) hC]; exact b.f0, by rw [h.frozen (p := ⟨B, 1, none⟩) hC]; exact b.f1, by rw [h.frozen (p := ⟨B, 2, none⟩) hC]; exact b.f2, by rw [h.frozen (p := ⟨B, 3, none⟩) hC]; exact b.f3, by rw [h.frozen (p := ⟨B, 4, none⟩) hC]; exact b.f4, by omega⟩
theorem Box.new (w : World) (v0 v1 v2 v3 v4 : Value) : Box (w.alloc (.cells #[v0, v1, v2, v3, v4] 71)) w.heap.size v0 v1 v2 v3 v4 := by
  constructor <;> simp [go_sem]
theorem Box.alloc {w : World} {B : Nat} {v0 v1 v2 v3 v4 : Value} (b : Box w B v0 v1 v2 v3 v4) (o : Obj) : Box (w.alloc o) B v0 v1 v2 v3 v4 :=
  b.keep ((Below.refl w.heap.size w).alloc (Nat.le_refl _) o) b.lt
def put5 (w : World) (B : Nat) (v0 v1 v2 v3 v4 : Value) : World := ((((w.setCell ⟨B, 0, none⟩ v0).setCell ⟨B, 1, none⟩ v1).setCell ⟨B, 2, none⟩ v2).setCell ⟨B, 3, none⟩ v3).setCell ⟨B, 4, none⟩ v4
theorem Box.put {w : World} {B : Nat} {u0 u1 u2 u3 u4 : Value} (b : Box w B u0 u1 u2 u3 u4) (v0 v1 v2 v3 v4 : Value) : Box (put5 w B v0 v1 v2 v3 v4) B v0 v1 v2 v3 v4 := by
  obtain ⟨c0, c1, c2, c3, c4, f0, f1, f2, f3, f4, lt⟩ := b
  unfold put5
  constructor <;> simp [go_sem, c0, c1, c2, c3, c4, f0, f1, f2, f3, f4, lt]
theorem Box.putOther {w : World} {B C : Nat} {u0 u1 u2 u3 u4 : Value} (b : Box w B u0 u1 u2 u3 u4) (hC : C ≠ B) (v0 v1 v2 v3 v4 : Value) : Box (put5 w C v0 v1 v2 v3 v4) B u0 u1 u2 u3 u4 := by
  obtain ⟨c0, c1, c2, c3, c4, f0, f1, f2, f3, f4, lt⟩ := b
  unfold put5
  constructor <;> simp [go_sem, c0, c1, c2, c3, c4, f0, f1, f2, f3, f4, lt, hC]
theorem put5_below {w : World} {A B : Nat} (v0 v1 v2 v3 v4 : Value) (h : A ≤ B) : Below A w (put5 w B v0 v1 v2 v3 v4) :=
  (((((Below.refl A w).setCell h v0).setCell h v1).setCell h v2).setCell h v3).setCell h v4
set_option maxHeartbeats 1000000 in
theorem radd_8 (a b : Int) (w : World) (h0 : 0 ≤ a) (h1 : a < 4294967296) (g0 : 0 ≤ b) (g1 : b < 4294967296) (na : isNone a = false) (nb : isNone b = false) (ia : isInf a = false) (ib : isInf b = false)
    (fa : a % 2147483648 < 2139095040) (fb : b % 2147483648 < 2139095040) (hlt : exI a < exI b) :
    Calls Try.prog 19 #[.int .i64 a, .int .i64 b] w fun e w' => e = .returned (.int .i64 (ADDf a b)) ∧ Below w.heap.size w w' := by
  have E1 := ofM_fin a fa
  have E2 := ofE_fin a fa
  have E3 := ofM_fin b fb
  have E4 := ofE_fin b fb
  have xa := exI_bd a
  have xb := exI_bd b
  have ma := manI_bd a
  have mb := manI_bd b
  go_enter Try.func19, Try.ntmps19
  go_wp2_with fail
  refine (of_any _ _ h0 h1).mono ?_
  rintro e w1 ⟨rfl, hb1⟩
  unfold numV
  have s1 := hb1.size
  have HB1 : Hid _ := hb1
  clear hb1
  go_wp2_with fail
  refine (of_any _ _ g0 g1).mono ?_
  rintro e w2 ⟨rfl, hb2⟩
  unfold numV
  have X := (Box.new w1 _ _ _ _ _).keep hb2 (by simp)
  have HB2 : Hid _ := hb2
  have HX : Hid _ := X
  obtain ⟨x0, x1, x2, x3, x4, f0, f1, f2, f3, f4, s2⟩ := X
  clear hb2
  have t2 := s2
  go_wp2_with fail
  refine (of_any _ _ g0 g1).mono ?_
  rintro e w3 ⟨rfl, hb3⟩
  unfold numV
  have X := (HX.out.alloc _).keep hb3 (by rw [World.size_alloc]; have := HX.out.lt; omega)
  have Y := (Box.new w2 _ _ _ _ _).keep hb3 (by simp)
  have HB3 : Hid _ := hb3
  have HX3 : Hid _ := X
  have HY3 : Hid _ := Y
  clear hb3 x0 x1 x2 x3 x4 f0 f1 f2 f3 f4 s2 HX Y
  obtain ⟨x0, x1, x2, x3, x4, f0, f1, f2, f3, f4, s2⟩ := X
  go_wp2_with fail
  refine (of_any _ _ h0 h1).mono ?_
  rintro e w4 ⟨rfl, hb4⟩
  unfold numV
  have X := HX3.out.put (.bool false) (.bool false) (.bool (isNeg b)) (.int .i64 (manI b)) (.int .i64 (exI b))
  have hne : w1.heap.size ≠ w2.heap.size := by omega
  have Y := HY3.out.putOther hne (.bool false) (.bool false) (.bool (isNeg b)) (.int .i64 (manI b)) (.int .i64 (exI b))
  have B3 : Hid (Below w1.heap.size w3 _) := put5_below (.bool false) (.bool false) (.bool (isNeg b)) (.int .i64 (manI b)) (.int .i64 (exI b)) (Nat.le_refl _)
  have l3 := HX3.out.lt
  have l3' := HY3.out.lt
  have X := X.keep hb4 (by simp [World.size_setCell]; omega)
  have Y := Y.keep hb4 (by simp [World.size_setCell]; omega)
  have HB4 : Hid _ := hb4
  have HX4 : Hid _ := X
  have HY4 : Hid _ := Y
  clear hb4 x0 x1 x2 x3 x4 f0 f1 f2 f3 f4 s2 X HX3 HY3 l3 l3'
  obtain ⟨x0, x1, x2, x3, x4, f0, f1, f2, f3, f4, s2⟩ := HX4.out
  obtain ⟨y0, y1, y2, y3, y4, k0, k1, k2, k3, k4, s4⟩ := Y
  go_wp2_with fail
  refine (exact_any _ _ _ _ _ _ _ _ _ _ _ mb.1 mb.2 ma.1 ma.2 xa.1 (Int.le_of_lt hlt) xb.2).mono ?_
  rintro e w5 ⟨rfl, hb5⟩
  have X := HX4.out.putOther (Ne.symm hne) (.bool false) (.bool false) (.bool (isNeg a)) (.int .i64 (manI a)) (.int .i64 (exI a))
  have Y := HY4.out.put (.bool false) (.bool false) (.bool (isNeg a)) (.int .i64 (manI a)) (.int .i64 (exI a))
  have B4 : Hid (Below w2.heap.size w4 _) := put5_below (.bool false) (.bool false) (.bool (isNeg a)) (.int .i64 (manI a)) (.int .i64 (exI a)) (Nat.le_refl _)
  have X := X.keep hb5 (by simp [World.size_setCell]; omega)
  have Y := Y.keep hb5 (by simp [World.size_setCell]; omega)
  have q2 := X.c2
  have r2 := Y.c2
  have BB : Hid (Below w.heap.size w w5) := by
    have b1 := HB1.out.alloc s1 (.cells #[Value.bool false, Value.bool false, Value.bool (isNeg a), Value.int IntKind.i64 (manI a), Value.int IntKind.i64 (exI a)] 71)
    have b2 := (b1.trans (HB2.out.mono (by rw [World.size_alloc]; omega))).alloc (by omega) (.cells #[Value.bool false, Value.bool false, Value.bool (isNeg b), Value.int IntKind.i64 (manI b), Value.int IntKind.i64 (exI b)] 71)
    have b3 := b2.trans (HB3.out.mono (by rw [World.size_alloc]; omega))
    have b4 := b3.trans (B3.out.mono (by omega))
    have b5 := b4.trans (HB4.out.mono (by simp [World.size_setCell]; have := b3.size; omega))
    have b6 := b5.trans (B4.out.mono (by omega))
    exact b6.trans (hb5.mono (by simp [World.size_setCell]; have := b5.size; omega))
  clear hb5 X Y HB1 HB2 HB3 HB4 B3 B4 HX4 HY4 x0 x1 x2 x3 x4 f0 f1 f2 f3 f4 y0 y1 y2 y3 y4 k0 k1 k2 k3 k4
  obtain ⟨Z, hZ⟩ : ∃ Z, Z = exZ (ng (isNeg b) (manI b)) (ng (isNeg a) (manI a)) (exI b - exI a) := ⟨_, rfl⟩
  obtain ⟨F, hF⟩ : ∃ F, F = exF (ng (isNeg a) (manI a)) (exI b) (exI a) := ⟨_, rfl⟩
  obtain ⟨k1, k2, k3, k4, k5, k6, k7⟩ := exact_ok b a g0 g1 h0 h1 (by unfold sz; omega) (Int.le_of_lt hlt) Z F hZ hF
  rw [ADDf_comm b a] at k1 k2 k3
  rw [← hZ, ← hF]
  clear hZ hF
  by_cases c1 : Z < 0
  · have R : Hid _ := k1 c1
    clear k1 k2 k3
    go_wp2_with (first | (go_at_call 65; refine (round_any _ _ _ _ (by omega) (by omega) (by omega) (by omega)).mono ?_; rintro e w' ⟨rfl, rfl⟩))
    go_ret
    exact ⟨congrArg Ending.returned (congrArg (Value.int IntKind.i64) R.out), BB.out⟩
  · by_cases c2 : Z = 0
    · have R : Hid _ := k3 c2
      clear k1 k2 k3
      obtain ⟨sa, hsa⟩ : ∃ s, s = isNeg a := ⟨_, rfl⟩
      obtain ⟨sb, hsb⟩ : ∃ s, s = isNeg b := ⟨_, rfl⟩
      have R' : Hid (sg (sb && sa) = ADDf a b) := by
        rw [hsa, hsb]
        show _ = _
        rw [← R.out]
        by_cases n1 : 2147483648 ≤ a <;> by_cases n2 : 2147483648 ≤ b <;> simp [sg, isNeg, n1, n2]
      rw [← hsb] at q2
      rw [← hsa] at r2
      subst c2
      clear hsa hsb R
      cases sa <;> cases sb
      all_goals
        go_wp2_with (first | (go_at_call 65; refine (round_any _ _ _ _ (by omega) (by omega) (by omega) (by omega)).mono ?_; rintro e w' ⟨rfl, rfl⟩))
        go_ret
        refine ⟨congrArg Ending.returned (congrArg (Value.int IntKind.i64) ?_), BB.out⟩
        rw [← R'.out, RI_zero]; rfl
    · have R : Hid _ := k2 (by omega)
      have D : (Z == 0) = false := by simpa using c2
      clear k1 k2 k3 c2
      go_wp2_with (first | (go_at_call 65; refine (round_any _ _ _ _ (by omega) (by omega) (by omega) (by omega)).mono ?_; rintro e w' ⟨rfl, rfl⟩))
      go_ret
      refine ⟨congrArg Ending.returned (congrArg (Value.int IntKind.i64) ?_), BB.out⟩
      rw [← R.out]; simp [sg]
end Go.Proofs.Ytkncmjnakjkndaa
