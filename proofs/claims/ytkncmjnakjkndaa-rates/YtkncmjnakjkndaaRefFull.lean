/-
  What tutorref.full answers: the same number with 24 bits. Conditions: a finite number that is not 0.
-/
import Derived.Test.YtkncmjnakjkndaaRefSum
import Derived.Test.YtkncmjnakjkndaaMath5
namespace Go.Proofs.Ytkncmjnakjkndaa
open Go.RowKit
set_option linter.unusedVariables false
set_option linter.unusedSimpArgs false
/-- how many places a number is short of 24 bits -/
def shortI (a : Int) : Nat := 24 - bl (manI a).toNat
theorem pow_lt_of (m : Int) (j u : Nat) (h0 : 0 < m) (hu1 : m * 2 ^ u < 16777216) (h : m * 2 ^ j < 8388608) (hu : 8388608 ≤ m * 2 ^ u) : j < u := by
  refine Nat.lt_of_not_le fun hle => ?_
  have := (pow_bd m u j (by omega) hle).2
  omega
theorem pow_uniq (m : Int) (j u : Nat) (h0 : 0 < m) (h : 8388608 ≤ m * 2 ^ j) (h' : m * 2 ^ j < 16777216) (hu : 8388608 ≤ m * 2 ^ u) (hu1 : m * 2 ^ u < 16777216) : j = u := by
  rcases Nat.lt_trichotomy j u with hl | hl | hl
  · have := (pow_bd m (j + 1) u (by omega) hl).2
    have := pow_next m j
    omega
  · exact hl
  · have := (pow_bd m (u + 1) j (by omega) hl).2
    have := pow_next m u
    omega
theorem Box.put34 {w : World} {B : Nat} {u0 u1 u2 u3 u4 : Value} (b : Box w B u0 u1 u2 u3 u4) (v3 v4 : Value) : Box ((w.setCell ⟨B, 3, none⟩ v3).setCell ⟨B, 4, none⟩ v4) B u0 u1 u2 v3 v4 := by
  obtain ⟨c0, c1, c2, c3, c4, f0, f1, f2, f3, f4, lt⟩ := b
  constructor <;> simp [go_sem, c0, c1, c2, c3, c4, f0, f1, f2, f3, f4, lt]
theorem Box.put34Other {w : World} {B C : Nat} {u0 u1 u2 u3 u4 : Value} (b : Box w B u0 u1 u2 u3 u4) (hC : C ≠ B) (v3 v4 : Value) : Box ((w.setCell ⟨C, 3, none⟩ v3).setCell ⟨C, 4, none⟩ v4) B u0 u1 u2 u3 u4 := by
  obtain ⟨c0, c1, c2, c3, c4, f0, f1, f2, f3, f4, lt⟩ := b
  constructor <;> simp [go_sem, c0, c1, c2, c3, c4, f0, f1, f2, f3, f4, lt, hC]
def mea (wr : World) (B : Nat) : Nat := (intOf ((wr.cell? ⟨B, 4, none⟩).getD undef) + 300).toNat
theorem mea_of {wr : World} {B : Nat} {x : Int} (h : wr.cell? ⟨B, 4, none⟩ = some (.int .i64 x)) : mea wr B = (x + 300).toNat := by unfold mea; rw [h]; rfl
set_option maxHeartbeats 1000000 in
theorem full_any (n i s : Bool) (m e : Int) (u : Nat) (w : World) (h0 : 0 < m) (h1 : m < 16777216) (hu : 8388608 ≤ m * 2 ^ u) (hu1 : m * 2 ^ u < 16777216) (e0 : -149 ≤ e) (e1 : e ≤ 105) (u1 : u ≤ 24) :
    Calls Try.prog 72 #[.agg #[.bool n, .bool i, .bool s, .int .i64 m, .int .i64 e]] w fun r w' => r = .returned (.agg #[.bool n, .bool i, .bool s, .int .i64 (m * 2 ^ u), .int .i64 (e - u)]) ∧ Below w.heap.size w w' := by
  go_enter Try.func72, Try.ntmps72
  go_wp2
  go_loopw [4] (fun v wr => ∃ (j : Nat) (P f : Int), Hid (Box wr w.heap.size (.bool n) (.bool i) (.bool s) (.int .i64 P) (.int .i64 f)) ∧ Hid (Box wr (w.heap.size + 1) (.bool false) (.bool false) (.bool false) (.int .i64 0) (.int .i64 0)) ∧ Hid (Below w.heap.size w wr) ∧ Hid (P = m * 2 ^ j ∧ f = e - j) ∧ j ≤ u ∧ 0 < P ∧ P < 16777216 ∧ -200 ≤ f ∧ f ≤ 105)
    (fun v wr => mea wr w.heap.size)
  case atStart =>
    refine ⟨0, m, e, (Box.new w _ _ _ _ _).alloc _, ?_, ((Below.refl _ _).alloc (Nat.le_refl _) _).alloc (by simp) _, ⟨by simp, by simp⟩, by omega, h0, h1, by omega, e1⟩
    have := Box.new (w.alloc (Obj.cells #[Value.bool n, Value.bool i, Value.bool s, Value.int IntKind.i64 m, Value.int IntKind.i64 e] 71)) (.bool false) (.bool false) (.bool false) (.int .i64 0) (.int .i64 0)
    rw [World.size_alloc] at this
    exact this
  case round =>
    obtain ⟨j, P, f, X, Y, BW, hP, hj, p0, p1, f0, f1⟩ := hrel
    obtain ⟨x0, x1, x2, x3, x4, g0, g1, g2, g3, g4, sx⟩ := X.out
    by_cases hc : P < 8388608
    · have hlt : j < u := pow_lt_of m j u h0 hu1 (by rw [← hP.out.1]; exact hc) hu
      have hn : Hid (2 * P = m * 2 ^ (j + 1)) := by have := pow_next m j; rw [← hP.out.1] at this; exact this
      have hf : Hid (f = e - j) := hP.out.2
      have M0 : Hid _ := mea_of x4
      clear hP
      go_wp2
      go_roundw
      case rel =>
        exact ⟨j + 1, 2 * P, f - 1, X.out.put34 _ _, Y.out.put34Other (by omega) _ _, (BW.out.setCell (Nat.le_refl _) _).setCell (Nat.le_refl _) _, ⟨hn.out, by have := hf.out; omega⟩, by omega, by omega, by omega, by have := hf.out; omega, by omega⟩
      case measure =>
        rw [M0.out, mea_of (X.out.put34 _ _).c4]; omega
    · have hju := pow_uniq m j u h0 (by rw [← hP.out.1]; omega) (by rw [← hP.out.1]; omega) hu hu1
      have hPv : Hid (P = m * 2 ^ u ∧ f = e - u) := by have := hP.out; rw [hju] at this; exact this
      obtain ⟨y0, y1, y2, y3, y4, k0, k1, k2, k3, k4, sy⟩ := Y.out
      clear hP hju
      go_wp2
      refine bodyPost_ret (v := .agg #[.bool n, .bool i, .bool s, .int .i64 P, .int .i64 f]) (by simp [results, Try.results72, go_sem, y0, y1, y2, y3, y4, sy]) rfl ⟨?_, ?_⟩
      · rw [hPv.out.1, hPv.out.2]
      · have := put5_below (w := wr) (A := w.heap.size) (B := w.heap.size + 1) (.bool n) (.bool i) (.bool s) (.int .i64 P) (.int .i64 f) (by omega)
        exact BW.out.trans this
end Go.Proofs.Ytkncmjnakjkndaa
