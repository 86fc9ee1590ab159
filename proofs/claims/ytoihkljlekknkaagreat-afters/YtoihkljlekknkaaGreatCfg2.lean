/-
  The configuration that the statements take: whatever comes in, it is twenty ints. No condition.
-/
import Derived.Test.YtoihkljlekknkaaGreatCfg
import Derived.Test.YtoihkljlekknkaaGreatCk1
namespace Go.Proofs.YtoihkljlekknkaaGreat
open Go.ChangeShapes Go.WideShapes Go.ChangeAt Go.RowKit
set_option linter.unusedVariables false
set_option linter.unusedSimpArgs false
theorem cells_are (cs : Array Value) (hsz : cs.size = 20) (x0 x1 x2 x3 x4 x5 x6 x7 x8 x9 x10 x11 x12 x13 x14 x15 x16 x17 x18 x19 : Int)
 (h0 : cs[0]? = some (.int .i64 x0))
 (h1 : cs[1]? = some (.int .i64 x1))
 (h2 : cs[2]? = some (.int .i64 x2))
 (h3 : cs[3]? = some (.int .i64 x3))
 (h4 : cs[4]? = some (.int .i64 x4))
 (h5 : cs[5]? = some (.int .i64 x5))
 (h6 : cs[6]? = some (.int .i64 x6))
 (h7 : cs[7]? = some (.int .i64 x7))
 (h8 : cs[8]? = some (.int .i64 x8))
 (h9 : cs[9]? = some (.int .i64 x9))
 (h10 : cs[10]? = some (.int .i64 x10))
 (h11 : cs[11]? = some (.int .i64 x11))
 (h12 : cs[12]? = some (.int .i64 x12))
 (h13 : cs[13]? = some (.int .i64 x13))
 (h14 : cs[14]? = some (.int .i64 x14))
 (h15 : cs[15]? = some (.int .i64 x15))
 (h16 : cs[16]? = some (.int .i64 x16))
 (h17 : cs[17]? = some (.int .i64 x17))
 (h18 : cs[18]? = some (.int .i64 x18))
 (h19 : cs[19]? = some (.int .i64 x19))
 : cs = rcs ⟨x0, x1, x2, x3, x4, x5, x6, x7, x8, x9, x10, x11, x12, x13, x14, x15, x16, x17, x18, x19⟩ := by
 apply Array.ext_getElem?
 intro i
 by_cases hi : i < 20
 · rcases (show i = 0 ∨ i = 1 ∨ i = 2 ∨ i = 3 ∨ i = 4 ∨ i = 5 ∨ i = 6 ∨ i = 7 ∨ i = 8 ∨ i = 9 ∨ i = 10 ∨ i = 11 ∨ i = 12 ∨ i = 13 ∨ i = 14 ∨ i = 15 ∨ i = 16 ∨ i = 17 ∨ i = 18 ∨ i = 19 by omega) with rfl | rfl | rfl | rfl | rfl | rfl | rfl | rfl | rfl | rfl | rfl | rfl | rfl | rfl | rfl | rfl | rfl | rfl | rfl | rfl
   · exact h0
   · exact h1
   · exact h2
   · exact h3
   · exact h4
   · exact h5
   · exact h6
   · exact h7
   · exact h8
   · exact h9
   · exact h10
   · exact h11
   · exact h12
   · exact h13
   · exact h14
   · exact h15
   · exact h16
   · exact h17
   · exact h18
   · exact h19
 · rw [Array.getElem?_eq_none (by omega), Array.getElem?_eq_none (by show 20 ≤ i; omega)]
theorem wf_ok {x : Int} (h : (Lit.int .i64 x).wf = true) : i64ok x := bounds_i64 h
set_option maxRecDepth 100000 in
theorem cfg_open {H : Type} {enc : TypeId × Value → H} {W : World} {r : Reach} {b0 base : Nat} {spare : Nat → Bool} {held : Bool} {v : Value} {d : DataW H} {p : List MemPlace}
 (hv : Value.okWide Tryz.prog W r b0 24 v) (h : DataW.Trod enc Tryz.prog W base spare held 24 v d p) :
 ∃ c : Cf, v = .agg (rcs c) ∧ c.ok := by
 obtain ⟨cs, rfl, hsz⟩ := okWide_struct Tryz.underlying24 hv
 obtain ⟨fuel, hf⟩ := h
 obtain ⟨xs, n, _, _, hl, hlen, hfld⟩ := DataW.trod_struct Tryz.underlying24 hf
 have hw := hfld 1 _ rfl
 obtain ⟨yw, hyw⟩ := some_at xs _ 1 hlen (by decide)
 rw [hyw] at hw
 obtain ⟨ws, m, _, _, hl4, hlen4, harr⟩ := DataW.trod_array Tryz.underlying22 hw
 obtain ⟨y0, hy0⟩ := some_at xs _ 0 hlen (by decide)
 have g0 := hfld 0 _ rfl
 rw [hy0] at g0
 obtain ⟨x0, e0, k0⟩ := cell_int Tryz.underlying3 Tryz.cells3 g0
 obtain ⟨y2, hy2⟩ := some_at xs _ 2 hlen (by decide)
 have g2 := hfld 2 _ rfl
 rw [hy2] at g2
 obtain ⟨x5, e5, k5⟩ := cell_int Tryz.underlying3 Tryz.cells3 g2
 obtain ⟨y3, hy3⟩ := some_at xs _ 3 hlen (by decide)
 have g3 := hfld 3 _ rfl
 rw [hy3] at g3
 obtain ⟨x6, e6, k6⟩ := cell_int Tryz.underlying3 Tryz.cells3 g3
 obtain ⟨y4, hy4⟩ := some_at xs _ 4 hlen (by decide)
 have g4 := hfld 4 _ rfl
 rw [hy4] at g4
 obtain ⟨x7, e7, k7⟩ := cell_int Tryz.underlying3 Tryz.cells3 g4
 obtain ⟨y5, hy5⟩ := some_at xs _ 5 hlen (by decide)
 have g5 := hfld 5 _ rfl
 rw [hy5] at g5
 obtain ⟨x8, e8, k8⟩ := cell_int Tryz.underlying3 Tryz.cells3 g5
 obtain ⟨y6, hy6⟩ := some_at xs _ 6 hlen (by decide)
 have g6 := hfld 6 _ rfl
 rw [hy6] at g6
 obtain ⟨x9, e9, k9⟩ := cell_int Tryz.underlying3 Tryz.cells3 g6
 obtain ⟨y7, hy7⟩ := some_at xs _ 7 hlen (by decide)
 have g7 := hfld 7 _ rfl
 rw [hy7] at g7
 obtain ⟨x10, e10, k10⟩ := cell_int Tryz.underlying3 Tryz.cells3 g7
 obtain ⟨y8, hy8⟩ := some_at xs _ 8 hlen (by decide)
 have g8 := hfld 8 _ rfl
 rw [hy8] at g8
 obtain ⟨x11, e11, k11⟩ := cell_int Tryz.underlying3 Tryz.cells3 g8
 obtain ⟨y9, hy9⟩ := some_at xs _ 9 hlen (by decide)
 have g9 := hfld 9 _ rfl
 rw [hy9] at g9
 obtain ⟨x12, e12, k12⟩ := cell_int Tryz.underlying3 Tryz.cells3 g9
 obtain ⟨y10, hy10⟩ := some_at xs _ 10 hlen (by decide)
 have g10 := hfld 10 _ rfl
 rw [hy10] at g10
 obtain ⟨x13, e13, k13⟩ := cell_int Tryz.underlying3 Tryz.cells3 g10
 obtain ⟨y11, hy11⟩ := some_at xs _ 11 hlen (by decide)
 have g11 := hfld 11 _ rfl
 rw [hy11] at g11
 obtain ⟨x14, e14, k14⟩ := cell_int Tryz.underlying3 Tryz.cells3 g11
 obtain ⟨y12, hy12⟩ := some_at xs _ 12 hlen (by decide)
 have g12 := hfld 12 _ rfl
 rw [hy12] at g12
 obtain ⟨x15, e15, k15⟩ := cell_int Tryz.underlying3 Tryz.cells3 g12
 obtain ⟨y13, hy13⟩ := some_at xs _ 13 hlen (by decide)
 have g13 := hfld 13 _ rfl
 rw [hy13] at g13
 obtain ⟨x16, e16, k16⟩ := cell_int Tryz.underlying3 Tryz.cells3 g13
 obtain ⟨y14, hy14⟩ := some_at xs _ 14 hlen (by decide)
 have g14 := hfld 14 _ rfl
 rw [hy14] at g14
 obtain ⟨x17, e17, k17⟩ := cell_int Tryz.underlying3 Tryz.cells3 g14
 obtain ⟨y15, hy15⟩ := some_at xs _ 15 hlen (by decide)
 have g15 := hfld 15 _ rfl
 rw [hy15] at g15
 obtain ⟨x18, e18, k18⟩ := cell_int Tryz.underlying3 Tryz.cells3 g15
 obtain ⟨y16, hy16⟩ := some_at xs _ 16 hlen (by decide)
 have g16 := hfld 16 _ rfl
 rw [hy16] at g16
 obtain ⟨x19, e19, k19⟩ := cell_int Tryz.underlying3 Tryz.cells3 g16
 obtain ⟨z0, hz0⟩ := some_at ws _ 0 hlen4 (by decide)
 have a0 := harr 0 (by decide)
 rw [hz0] at a0
 obtain ⟨x1, e1, k1⟩ := cell_int Tryz.underlying3 Tryz.cells3 a0
 simp only [Tryz.cells3, Tryz.cells22] at e1
 obtain ⟨z1, hz1⟩ := some_at ws _ 1 hlen4 (by decide)
 have a1 := harr 1 (by decide)
 rw [hz1] at a1
 obtain ⟨x2, e2, k2⟩ := cell_int Tryz.underlying3 Tryz.cells3 a1
 simp only [Tryz.cells3, Tryz.cells22] at e2
 obtain ⟨z2, hz2⟩ := some_at ws _ 2 hlen4 (by decide)
 have a2 := harr 2 (by decide)
 rw [hz2] at a2
 obtain ⟨x3, e3, k3⟩ := cell_int Tryz.underlying3 Tryz.cells3 a2
 simp only [Tryz.cells3, Tryz.cells22] at e3
 obtain ⟨z3, hz3⟩ := some_at ws _ 3 hlen4 (by decide)
 have a3 := harr 3 (by decide)
 rw [hz3] at a3
 obtain ⟨x4, e4, k4⟩ := cell_int Tryz.underlying3 Tryz.cells3 a3
 simp only [Tryz.cells3, Tryz.cells22] at e4
 have S : cs.size = 20 := hsz.trans Tryz.cells24
 refine ⟨⟨x0, x1, x2, x3, x4, x5, x6, x7, x8, x9, x10, x11, x12, x13, x14, x15, x16, x17, x18, x19⟩, ?_, ⟨wf_ok k0, wf_ok k1, wf_ok k2, wf_ok k3, wf_ok k4, wf_ok k5, wf_ok k6, wf_ok k7, wf_ok k8, wf_ok k9, wf_ok k10, wf_ok k11, wf_ok k12, wf_ok k13, wf_ok k14, wf_ok k15, wf_ok k16, wf_ok k17, wf_ok k18, wf_ok k19⟩⟩
 rw [cells_are cs S x0 x1 x2 x3 x4 x5 x6 x7 x8 x9 x10 x11 x12 x13 x14 x15 x16 x17 x18 x19 (by simpa [Value.cells] using e0) (by simp [Value.cells, List.getElem?_take, List.getElem?_drop] at e1; exact e1.2) (by simp [Value.cells, List.getElem?_take, List.getElem?_drop] at e2; exact e2.2) (by simp [Value.cells, List.getElem?_take, List.getElem?_drop] at e3; exact e3.2) (by simp [Value.cells, List.getElem?_take, List.getElem?_drop] at e4; exact e4.2) (by simpa [Value.cells] using e5) (by simpa [Value.cells] using e6) (by simpa [Value.cells] using e7) (by simpa [Value.cells] using e8) (by simpa [Value.cells] using e9) (by simpa [Value.cells] using e10) (by simpa [Value.cells] using e11) (by simpa [Value.cells] using e12) (by simpa [Value.cells] using e13) (by simpa [Value.cells] using e14) (by simpa [Value.cells] using e15) (by simpa [Value.cells] using e16) (by simpa [Value.cells] using e17) (by simpa [Value.cells] using e18) (by simpa [Value.cells] using e19)]
end Go.Proofs.YtoihkljlekknkaaGreat
