/-
  A configuration that comes in by value: its cells are whole numbers that fit their kinds. No condition.
-/
import Derived.Test.YtoihkljlekknkaaGreatRows
import Derived.Test.YtoihkljlekknkaaGreatProg
import Derived.WalkKit
import Derived.ProofKit
import Derived.OpenShut
import Derived.Carry
namespace Go.Proofs.YtoihkljlekknkaaGreat
open Go.ChangeShapes Go.WideShapes Go.ChangeAt Go.RowKit
set_option linter.unusedVariables false
set_option linter.unusedSimpArgs false
theorem Tryz.laidOut : laidOutB Tryz.prog = true := by kernel_rfl
theorem Tryz.cells3 : Tryz.prog.cellsOf 3 = 1 := by kernel_rfl
theorem Tryz.cells29 : Tryz.prog.cellsOf 29 = 1 := by kernel_rfl
theorem Tryz.cells31 : Tryz.prog.cellsOf 31 = 20 := by kernel_rfl
theorem Tryz.cells24 : Tryz.prog.cellsOf 24 = 20 := by kernel_rfl
theorem Tryz.cells22 : Tryz.prog.cellsOf 22 = 4 := by kernel_rfl
theorem cell_int {H : Type} {enc : TypeId × Value → H} {P : Program} {W : World} {base : Nat} {spare : Nat → Bool} {held : Bool} {n : Nat} {t : TypeId} {k : IntKind} {cs : List Value} {o : Nat} {y : DataW H × List MemPlace}
 (hu : P.underlying t = some (.int k)) (hc : P.cellsOf t = 1) (h : DataW.trod enc P W base spare held n t ((cs.drop o).take (P.cellsOf t)) = some y) : ∃ x, cs[o]? = some (.int k x) ∧ (Lit.int k x).wf = true := by
 obtain ⟨x, e, _, wf⟩ := DataW.trod_int hu h
 rw [hc] at e
 refine ⟨x, ?_, wf⟩
 have : ((cs.drop o).take 1)[0]? = some (.int k x) := by rw [e]; rfl
 simpa [List.getElem?_take, List.getElem?_drop] using this
theorem some_at {α : Type} (xs : List α) (n i : Nat) (h : xs.length = n) (hi : i < n) : ∃ y, xs[i]? = some y := ⟨xs[i], List.getElem?_eq_getElem (by omega)⟩
set_option maxRecDepth 100000 in
/-- the seed of a configuration of the program -/
theorem cfg_seed {H : Type} {enc : TypeId × Value → H} {W : World} {r : Reach} {b0 base : Nat} {spare : Nat → Bool} {held : Bool} {v : Value} {d : DataW H} {p : List MemPlace}
 (hv : Value.okWide Tryz.prog W r b0 31 v) (h : DataW.Trod enc Tryz.prog W base spare held 31 v d p) :
 ∃ (cs : Array Value) (seed : Int), v = .agg cs ∧ cs.size = 20 ∧ cs[14]? = some (.int .u32 seed) ∧ 0 ≤ seed ∧ seed < 4294967296 := by
 obtain ⟨cs, rfl, hsz⟩ := okWide_struct Tryz.underlying31 hv
 obtain ⟨fuel, hf⟩ := h
 obtain ⟨xs, n, _, _, hl, hlen, hfld⟩ := DataW.trod_struct Tryz.underlying31 hf
 have h11 := hfld 11 _ rfl
 obtain ⟨y, hy⟩ := some_at xs _ 11 hlen (by decide)
 rw [hy] at h11
 obtain ⟨x, hx, wf⟩ := cell_int Tryz.underlying29 Tryz.cells29 h11
 have b := bounds_u32 wf
 refine ⟨cs, x, rfl, hsz.trans Tryz.cells31, ?_, by omega, by omega⟩
 simpa [Value.cells] using hx
end Go.Proofs.YtoihkljlekknkaaGreat
