/-
  The script that the law takes: whatever comes in, its deeds are numbers and texts. No condition.
-/
import Derived.Test.YtnkgfoabadjboaaRows
import Derived.Test.YtnkgfoabadjboaaProg
import Derived.WalkKit
import Derived.ProofKit
import Derived.OpenShut
import Derived.Carry
import Derived.SizedLaws
import Derived.Deep.Slices
namespace Go.Proofs.Ytnkgfoabadjboaa
open Go.ChangeShapes Go.WideShapes Go.ChangeAt Go.RowKit
set_option linter.unusedVariables false
set_option linter.unusedSimpArgs false
theorem Try.laidOut : laidOutB Try.prog = true := by kernel_rfl
theorem Try.cells3 : Try.prog.cellsOf 3 = 1 := by kernel_rfl
theorem Try.cells9 : Try.prog.cellsOf 9 = 1 := by kernel_rfl
theorem Try.cells48 : Try.prog.cellsOf 48 = 6 := by kernel_rfl
theorem Try.bytes48 : Try.prog.bytesOf 48 = 64 := by kernel_rfl
theorem weightsAll_mem {H : Type} {P : Program} {e : TypeId} : ∀ {l : List (DataW H)} {d : DataW H} {x : Nat}, d ∈ l → x ∈ d.weights P e → x ∈ DataW.weightsAll P e l
  | a :: r, d, x, hd, hx => by
    simp only [DataW.weightsAll, List.mem_append]
    rcases List.mem_cons.1 hd with h | h
    · rw [h] at hx; exact Or.inl hx
    · exact Or.inr (weightsAll_mem h hx)
theorem one_int {H : Type} {enc : TypeId × Value → H} {P : Program} {W : World} {base : Nat} {spare : Nat → Bool} {held : Bool} {n : Nat} {t : TypeId} {k : IntKind} {cs : List Value} {o : Nat} {y : DataW H × List MemPlace}
    (hu : P.underlying t = some (.int k)) (hc : P.cellsOf t = 1) (h : DataW.trod enc P W base spare held n t ((cs.drop o).take (P.cellsOf t)) = some y) : ∃ x, cs[o]? = some (.int k x) ∧ (Lit.int k x).wf = true := by
  obtain ⟨x, e, _, wf⟩ := DataW.trod_int hu h
  rw [hc] at e
  refine ⟨x, ?_, wf⟩
  have : ((cs.drop o).take 1)[0]? = some (.int k x) := by rw [e]; rfl
  simpa [List.getElem?_take, List.getElem?_drop] using this
theorem one_text {H : Type} {enc : TypeId × Value → H} {P : Program} {W : World} {base : Nat} {spare : Nat → Bool} {held : Bool} {n : Nat} {t : TypeId} {cs : List Value} {o : Nat} {y : DataW H × List MemPlace}
    (hu : P.underlying t = some .string) (hc : P.cellsOf t = 1) (h : DataW.trod enc P W base spare held n t ((cs.drop o).take (P.cellsOf t)) = some y) : ∃ s : ByteArray, cs[o]? = some (.string s) ∧ y.1 = .lit (.string s.data.toList) := by
  obtain ⟨s, e, hy, _⟩ := DataW.trod_string hu h
  rw [hc] at e
  refine ⟨s, ?_, by rw [hy]⟩
  have : ((cs.drop o).take 1)[0]? = some (.string s) := by rw [e]; rfl
  simpa [List.getElem?_take, List.getElem?_drop] using this
theorem some_at {α : Type} (xs : List α) (n i : Nat) (h : xs.length = n) (hi : i < n) : ∃ y, xs[i]? = some y := ⟨xs[i], List.getElem?_eq_getElem (by omega)⟩
/-- deed number i, where it lies -/
def DeedAt (W : World) (b off : Nat) (i : Nat) : Prop :=
  ∃ (wh kd a c : Int) (s t : ByteArray), W.cell? ⟨b, off + i * 6, none⟩ = some (.int .i64 wh) ∧ W.cell? ⟨b, off + i * 6 + 1, none⟩ = some (.int .i64 kd) ∧ W.cell? ⟨b, off + i * 6 + 2, none⟩ = some (.string s) ∧ W.cell? ⟨b, off + i * 6 + 3, none⟩ = some (.string t) ∧ W.cell? ⟨b, off + i * 6 + 4, none⟩ = some (.int .i64 a) ∧ W.cell? ⟨b, off + i * 6 + 5, none⟩ = some (.int .i64 c) ∧
    (-9223372036854775808 ≤ wh ∧ wh ≤ 9223372036854775807) ∧ (-9223372036854775808 ≤ a ∧ a ≤ 9223372036854775807) ∧ (-9223372036854775808 ≤ c ∧ c ≤ 9223372036854775807) ∧ s.size < 4611686018427387904 ∧ t.size < 4611686018427387904
set_option maxRecDepth 100000 in
theorem script_open {H : Type} {enc : TypeId × Value → H} {W : World} {r : Reach} {b0 base : Nat} {spare : Nat → Bool} {held : Bool} {v : Value} {d : DataW H} {p : List MemPlace}
    (hv : Value.okWide Try.prog W r b0 36 v) (h : DataW.Trod enc Try.prog W base spare held 36 v d p) (hz : ∀ x ∈ d.weights Try.prog 36, x ≤ reachBytes) :
    ∃ (sa : Option Addr) (n cap : Nat), v = .slice sa n cap ∧ n ≤ 2199023255488 ∧ (0 < n → ∃ b off, sa = some ⟨b, off, none⟩ ∧ b < W.heap.size ∧ ∀ i, i < n → DeedAt W b off i) := by
  obtain ⟨sa, n, cap, rfl⟩ := okWide_slice Try.underlying36 hv
  obtain ⟨fuel, hf⟩ := h
  have hr : reachBytes ≤ 140737488351232 := by decide
  rcases Go.Deep.open_slice Try.underlying36 hf with ⟨e, _⟩ | ⟨a, len, cap', m, k, Dd, Pl, e, hb, hl, hc, hm, hx, hel⟩
  · have e' : [Value.slice sa n cap] = [Value.slice none 0 0] := by simpa [Value.cells] using e
    injection e' with e1 _
    injection e1 with _ e2 _
    exact ⟨sa, n, cap, rfl, by omega, fun q => by omega⟩
  · have e' : [Value.slice sa n cap] = [Value.slice (some a) len cap'] := by simpa [Value.cells] using e
    injection e' with e1 _
    injection e1 with e3 e4 e5
    subst e3
    subst e4
    subst e5
    have hd : d = .slice ((List.range n).map Dd) ((List.range (m - n)).map fun j => Dd (n + j)) := congrArg Prod.fst hx
    have hlm : n ≤ m := by rw [hm]; split <;> omega
    have wt : d.weights Try.prog 36 = (n + (m - n)) * 64 :: (DataW.weightsAll Try.prog 48 ((List.range n).map Dd) ++ DataW.weightsAll Try.prog 48 ((List.range (m - n)).map fun j => Dd (n + j))) := by
      rw [hd]; simp [DataW.weights, Try.underlying36, Try.bytes48]
    have hn64 : (n + (m - n)) * 64 ≤ reachBytes := hz _ (by rw [wt]; exact List.mem_cons_self)
    refine ⟨some a, n, cap, rfl, by omega, fun q => ?_⟩
    have cellsAt : ∀ i, i < n → ∃ cs', (∀ j, j < 6 → W.cell? (a.add (i * 6 + j)) = cs'[j]?) ∧ DataW.trod enc Try.prog W base spare held k 48 cs' = some (Dd i, Pl i) := by
      intro i hi
      obtain ⟨cs', h1, h2⟩ := hel i (by omega)
      rw [Try.cells48] at h1
      obtain ⟨_, _, hcell⟩ := World.cells?_some h1
      exact ⟨cs', fun j hj => by rw [← Go.Deep.add_add]; exact hcell j hj, h2⟩
    have deed : ∀ i, i < n → ∃ (wh kd a' c : Int) (s t : ByteArray), W.cell? (a.add (i * 6)) = some (.int .i64 wh) ∧ W.cell? (a.add (i * 6 + 1)) = some (.int .i64 kd) ∧ W.cell? (a.add (i * 6 + 2)) = some (.string s) ∧ W.cell? (a.add (i * 6 + 3)) = some (.string t) ∧ W.cell? (a.add (i * 6 + 4)) = some (.int .i64 a') ∧ W.cell? (a.add (i * 6 + 5)) = some (.int .i64 c) ∧
        (-9223372036854775808 ≤ wh ∧ wh ≤ 9223372036854775807) ∧ (-9223372036854775808 ≤ a' ∧ a' ≤ 9223372036854775807) ∧ (-9223372036854775808 ≤ c ∧ c ≤ 9223372036854775807) ∧ s.size < 4611686018427387904 ∧ t.size < 4611686018427387904 := by
      intro i hi
      obtain ⟨cs', hcell, htr⟩ := cellsAt i hi
      obtain ⟨xs, k', _, hxy, _, hlen, hfld⟩ := DataW.trod_struct Try.underlying48 htr
      have dd : Dd i = .agg (xs.map (·.1)) := congrArg Prod.fst hxy
      have lt6 : xs.length = 6 := hlen
      obtain ⟨y0, hy0⟩ := some_at xs 6 0 lt6 (by decide)
      obtain ⟨y1, hy1⟩ := some_at xs 6 1 lt6 (by decide)
      obtain ⟨y2, hy2⟩ := some_at xs 6 2 lt6 (by decide)
      obtain ⟨y3, hy3⟩ := some_at xs 6 3 lt6 (by decide)
      obtain ⟨y4, hy4⟩ := some_at xs 6 4 lt6 (by decide)
      obtain ⟨y5, hy5⟩ := some_at xs 6 5 lt6 (by decide)
      have g0 := hfld 0 _ rfl
      have g1 := hfld 1 _ rfl
      have g2 := hfld 2 _ rfl
      have g3 := hfld 3 _ rfl
      have g4 := hfld 4 _ rfl
      have g5 := hfld 5 _ rfl
      rw [hy0] at g0
      rw [hy1] at g1
      rw [hy2] at g2
      rw [hy3] at g3
      rw [hy4] at g4
      rw [hy5] at g5
      obtain ⟨wh, c0, f0⟩ := one_int Try.underlying3 Try.cells3 g0
      obtain ⟨kd, c1, f1⟩ := one_int Try.underlying3 Try.cells3 g1
      obtain ⟨s, c2, f2⟩ := one_text Try.underlying9 Try.cells9 g2
      obtain ⟨t, c3, f3⟩ := one_text Try.underlying9 Try.cells9 g3
      obtain ⟨a', c4, f4⟩ := one_int Try.underlying3 Try.cells3 g4
      obtain ⟨c, c5, f5⟩ := one_int Try.underlying3 Try.cells3 g5
      have inAll : ∀ x, x ∈ (Dd i).weights Try.prog 48 → x ≤ reachBytes := fun x hx => hz x (by
        rw [wt]
        exact List.mem_cons_of_mem _ (List.mem_append_left _ (weightsAll_mem (List.mem_map.2 ⟨i, List.mem_range.2 hi, rfl⟩) hx)))
      have ss : s.data.toList.length ≤ reachBytes := inAll _ (by
        rw [dd]
        simp only [DataW.weights, Try.underlying48]
        exact DataW.weights_mem_each (j := 2) (t := 9) (d := .lit (.string s.data.toList)) rfl (by rw [List.getElem?_map, hy2]; exact congrArg some f2) _ (by simp [DataW.weights]))
      have ts : t.data.toList.length ≤ reachBytes := inAll _ (by
        rw [dd]
        simp only [DataW.weights, Try.underlying48]
        exact DataW.weights_mem_each (j := 3) (t := 9) (d := .lit (.string t.data.toList)) rfl (by rw [List.getElem?_map, hy3]; exact congrArg some f3) _ (by simp [DataW.weights]))
      have es : s.size = s.data.toList.length := by simp
      have et : t.size = t.data.toList.length := by simp
      refine ⟨wh, kd, a', c, s, t, (hcell 0 (by decide)).trans c0, (hcell 1 (by decide)).trans c1, (hcell 2 (by decide)).trans c2, (hcell 3 (by decide)).trans c3, (hcell 4 (by decide)).trans c4, (hcell 5 (by decide)).trans c5, ?_, ?_, ?_, by omega, by omega⟩
      · have := bounds_i64 f0; omega
      · have := bounds_i64 f4; omega
      · have := bounds_i64 f5; omega
    obtain ⟨b, off, spot⟩ := a
    obtain ⟨_, _, _, _, _, _, z0, _⟩ := deed 0 q
    have hspot : spot = none := by simpa [Addr.add] using World.cell?_spot z0
    subst hspot
    have hblk := World.block_lt_of_cell? W _ z0
    refine ⟨b, off, rfl, by simpa [Addr.add] using hblk, fun i hi => ?_⟩
    obtain ⟨wh, kd, a', c, s, t, q0, q1, q2, q3, q4, q5, rest⟩ := deed i hi
    rw [Addr.add_lit] at q0 q1 q2 q3 q4 q5
    exact ⟨wh, kd, a', c, s, t, q0, q1, q2, q3, q4, q5, rest⟩
end Go.Proofs.Ytnkgfoabadjboaa
