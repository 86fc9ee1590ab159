/-
  What the statements make of a configuration that comes in: its patterns modulo 2^32, and the program's form of it. Conditions: the numbers are ints.
-/
import Derived.Test.YtoihkljlekknkaaGreatBits
import Derived.Test.YtoihkljlekknkaaGreatPk1
import Derived.Laws.Rows
import Derived.Laws.Tables
import Derived.Below
import Derived.Deep.WholeRow
import Derived.Lib.SmallJoins
import Derived.Deep.Cut
namespace Go.Proofs.YtoihkljlekknkaaGreat
open Go.RowKit
set_option linter.unusedVariables false
set_option linter.unusedSimpArgs false
/-- a configuration -/
structure Cf where
 (L w0 w1 w2 w3 bend loss rule plan batch steps every span warm seed rate beta gamma small clip : Int)
def rcs (c : Cf) : Array Value := #[.int .i64 c.L, .int .i64 c.w0, .int .i64 c.w1, .int .i64 c.w2, .int .i64 c.w3, .int .i64 c.bend, .int .i64 c.loss, .int .i64 c.rule, .int .i64 c.plan, .int .i64 c.batch, .int .i64 c.steps, .int .i64 c.every, .int .i64 c.span, .int .i64 c.warm, .int .i64 c.seed, .int .i64 c.rate, .int .i64 c.beta, .int .i64 c.gamma, .int .i64 c.small, .int .i64 c.clip]
def pcs (c : Cf) : Array Value := #[.int .i64 c.L, .int .i64 c.w0, .int .i64 c.w1, .int .i64 c.w2, .int .i64 c.w3, .int .i64 c.bend, .int .i64 c.loss, .int .i64 c.rule, .int .i64 c.plan, .int .i64 c.batch, .int .i64 c.steps, .int .i64 c.every, .int .i64 c.span, .int .i64 c.warm, .int .u32 c.seed, .int .u32 c.rate, .int .u32 c.beta, .int .u32 c.gamma, .int .u32 c.small, .int .u32 c.clip]
def cl (c : Cf) : Cf := { c with seed := pat c.seed, rate := pat c.rate, beta := pat c.beta, gamma := pat c.gamma, small := pat c.small, clip := pat c.clip }
def i64ok (x : Int) : Prop := -9223372036854775808 ≤ x ∧ x ≤ 9223372036854775807
structure Cf.ok (c : Cf) : Prop where
 (L : i64ok c.L) (w0 : i64ok c.w0) (w1 : i64ok c.w1) (w2 : i64ok c.w2) (w3 : i64ok c.w3) (bend : i64ok c.bend) (loss : i64ok c.loss) (rule : i64ok c.rule) (plan : i64ok c.plan) (batch : i64ok c.batch) (steps : i64ok c.steps) (every : i64ok c.every) (span : i64ok c.span) (warm : i64ok c.warm) (seed : i64ok c.seed) (rate : i64ok c.rate) (beta : i64ok c.beta) (gamma : i64ok c.gamma) (small : i64ok c.small) (clip : i64ok c.clip)
def u32ok (x : Int) : Prop := 0 ≤ x ∧ x < 4294967296
structure Cf.ok2 (c : Cf) : Prop where
 (seed : u32ok c.seed) (rate : u32ok c.rate) (beta : u32ok c.beta) (gamma : u32ok c.gamma) (small : u32ok c.small) (clip : u32ok c.clip)
theorem cl_ok2 (c : Cf) : (cl c).ok2 := ⟨pat_bd _, pat_bd _, pat_bd _, pat_bd _, pat_bd _, pat_bd _⟩
open Go.Joins (block_setCell cell_of_block unfrozen_of_block)
/-- two blocks that a call lays first: what it is handed, by value, and its result's place -/
theorem two_blocks (w : World) (X Z : Array Value) (t u : TypeId) : ∃ W, (w.alloc (.cells X t)).alloc (.cells Z u) = W ∧ W.heap[w.heap.size]? = some (.cells X t (0, 0)) ∧ W.heap[w.heap.size + 1]? = some (.cells Z u (0, 0)) ∧ Below w.heap.size w W ∧ W.heap.size = w.heap.size + 2 := by
 refine ⟨_, rfl, ?_, heap_alloc2_new w _ _, ((Below.refl _ _).alloc (Nat.le_refl _) _).alloc (by simp) _, by simp⟩
 rw [Below.heap_alloc _ _ _ (by simp)]
 exact heap_alloc_new w _
theorem Below.setRow {B : Nat} {a w : World} (h : Below B a w) {g : Nat} (hp : B ≤ g) (cs : Array Value) : Below B a (w.setRow g cs) :=
 ⟨h.os, h.tape, h.output, Nat.le_trans h.size (by simp [World.setRow]), fun k hk => (setRow_other w g k cs (by omega)).trans (h.block k hk)⟩
theorem rcs_one (c : Cf) : (rcs c).all (·.oneCell') = true := by simp [rcs, Value.oneCell']
theorem pcs_one (c : Cf) : (pcs c).all (·.oneCell') = true := by simp [pcs, Value.oneCell']
def zcs : Array Value := #[.int .i64 0, .int .i64 0, .int .i64 0, .int .i64 0, .int .i64 0, .int .i64 0, .int .i64 0, .int .i64 0, .int .i64 0, .int .i64 0, .int .i64 0, .int .i64 0, .int .i64 0, .int .i64 0, .int .i64 0, .int .i64 0, .int .i64 0, .int .i64 0, .int .i64 0, .int .i64 0]
theorem rcs_set (L w0 w1 w2 w3 bend loss rule plan batch steps every span warm seed rate beta gamma small clip a b c d e f : Int) :
 (((((((rcs ⟨L, w0, w1, w2, w3, bend, loss, rule, plan, batch, steps, every, span, warm, seed, rate, beta, gamma, small, clip⟩).setIfInBounds 14 (.int .i64 a)).setIfInBounds 15 (.int .i64 b)).setIfInBounds 16 (.int .i64 c)).setIfInBounds 17 (.int .i64 d)).setIfInBounds 18 (.int .i64 e)).setIfInBounds 19 (.int .i64 f)) = rcs ⟨L, w0, w1, w2, w3, bend, loss, rule, plan, batch, steps, every, span, warm, a, b, c, d, e, f⟩ := by
 simp [rcs, Array.setIfInBounds]
set_option maxHeartbeats 4000000 in
set_option maxRecDepth 100000 in
theorem clean_any (c : Cf) (w : World) (h : c.ok) :
 Calls Tryz.prog 4 #[.agg (rcs c)] w fun e w' => e = .returned (.agg (rcs (cl c))) ∧ Below w.heap.size w w' := by
 obtain ⟨L, w0, w1, w2, w3, bend, loss, rule, plan, batch, steps, every, span, warm, seed, rate, beta, gamma, small, clip⟩ := c
 obtain ⟨_, _, _, _, _, _, _, _, _, _, _, _, _, _, h1, h2, h3, h4, h5, h6⟩ := h
 unfold i64ok at *
 simp only at h1 h2 h3 h4 h5 h6
 obtain ⟨X, hX⟩ : ∃ X, X = rcs ⟨L, w0, w1, w2, w3, bend, loss, rule, plan, batch, steps, every, span, warm, seed, rate, beta, gamma, small, clip⟩ := ⟨_, rfl⟩
 obtain ⟨Y, hY⟩ : ∃ Y, Y = rcs ⟨L, w0, w1, w2, w3, bend, loss, rule, plan, batch, steps, every, span, warm, pat seed, pat rate, pat beta, pat gamma, pat small, pat clip⟩ := ⟨_, rfl⟩
 have HXY : Hid ((((((X.setIfInBounds 14 (.int .i64 (pat seed))).setIfInBounds 15 (.int .i64 (pat rate))).setIfInBounds 16 (.int .i64 (pat beta))).setIfInBounds 17 (.int .i64 (pat gamma))).setIfInBounds 18 (.int .i64 (pat small))).setIfInBounds 19 (.int .i64 (pat clip)) = Y) := by show _ = _; rw [hX, hY]; exact rcs_set _ _ _ _ _ _ _ _ _ _ _ _ _ _ _ _ _ _ _ _ _ _ _ _ _ _
 have x14 : X[14]? = some (.int .i64 seed) := by rw [hX]; rfl
 have x15 : X[15]? = some (.int .i64 rate) := by rw [hX]; rfl
 have x16 : X[16]? = some (.int .i64 beta) := by rw [hX]; rfl
 have x17 : X[17]? = some (.int .i64 gamma) := by rw [hX]; rfl
 have x18 : X[18]? = some (.int .i64 small) := by rw [hX]; rfl
 have x19 : X[19]? = some (.int .i64 clip) := by rw [hX]; rfl
 have Y20 : Hid (Y.size = 20 ∧ Y.all (·.oneCell') = true) := by show _ ∧ _; rw [hY]; exact ⟨rfl, rcs_one _⟩
 obtain ⟨W, hW, b0, b1, bel, hws⟩ := two_blocks w X zcs 24 24
 have c14 : W.cell? ⟨w.heap.size, 14, none⟩ = some (.int .i64 seed) := (cell_of_block b0 14).trans x14
 have c15 : W.cell? ⟨w.heap.size, 15, none⟩ = some (.int .i64 rate) := (cell_of_block b0 15).trans x15
 have c16 : W.cell? ⟨w.heap.size, 16, none⟩ = some (.int .i64 beta) := (cell_of_block b0 16).trans x16
 have c17 : W.cell? ⟨w.heap.size, 17, none⟩ = some (.int .i64 gamma) := (cell_of_block b0 17).trans x17
 have c18 : W.cell? ⟨w.heap.size, 18, none⟩ = some (.int .i64 small) := (cell_of_block b0 18).trans x18
 have c19 : W.cell? ⟨w.heap.size, 19, none⟩ = some (.int .i64 clip) := (cell_of_block b0 19).trans x19
 have f14 := unfrozen_of_block b0 14
 have f15 := unfrozen_of_block b0 15
 have f16 := unfrozen_of_block b0 16
 have f17 := unfrozen_of_block b0 17
 have f18 := unfrozen_of_block b0 18
 have f19 := unfrozen_of_block b0 19
 have B0 : Hid _ := block_setCell (i := 19) (block_setCell (i := 18) (block_setCell (i := 17) (block_setCell (i := 16) (block_setCell (i := 15) (block_setCell (i := 14) b0 (.int .i64 (pat seed))) (.int .i64 (pat rate))) (.int .i64 (pat beta))) (.int .i64 (pat gamma))) (.int .i64 (pat small))) (.int .i64 (pat clip))
 have B1 : Hid _ := b1
 have BE : Hid (Below w.heap.size w W) := bel
 unfold zcs at hW
 have HW : Hid _ := hW
 have HY : Hid _ := hY
 clear b0 b1 bel hW x14 x15 x16 x17 x18 x19 hws hY
 rw [← hX, show cl ⟨L, w0, w1, w2, w3, bend, loss, rule, plan, batch, steps, every, span, warm, seed, rate, beta, gamma, small, clip⟩ = ⟨L, w0, w1, w2, w3, bend, loss, rule, plan, batch, steps, every, span, warm, pat seed, pat rate, pat beta, pat gamma, pat small, pat clip⟩ from rfl, ← HY.out]
 clear hX
 go_enter Tryz.func4, Tryz.ntmps4
 go_upto_region 1 with fail
 rw [HW.out]
 go_upto_region 7 with (first | (go_at_call 9; refine (pattern_any _ _ (by omega) (by omega)).mono ?_; rintro e w' ⟨rfl, hw'⟩; subst w'))
 obtain ⟨V, hV⟩ : ∃ V, V = (((((W.setCell ⟨w.heap.size, 14, none⟩ (.int .i64 (pat seed))).setCell ⟨w.heap.size, 15, none⟩ (.int .i64 (pat rate))).setCell ⟨w.heap.size, 16, none⟩ (.int .i64 (pat beta))).setCell ⟨w.heap.size, 17, none⟩ (.int .i64 (pat gamma))).setCell ⟨w.heap.size, 18, none⟩ (.int .i64 (pat small))).setCell ⟨w.heap.size, 19, none⟩ (.int .i64 (pat clip)) := ⟨_, rfl⟩
 have V0 : Hid (V.heap[w.heap.size]? = some (.cells Y 24 (0, 0))) := by show _ = _; rw [hV, ← HXY.out]; exact B0.out
 have V1 : Hid (V.heap[w.heap.size + 1]? = some (.cells zcs 24 (0, 0))) := by
  show _ = _
  rw [hV]
  iterate 6 rw [Below.heap_setCell _ _ _ _ (by show w.heap.size + 1 ≠ w.heap.size; omega)]
  exact B1.out
 have VB : Hid (Below w.heap.size w V) := by
  show Below _ _ _
  rw [hV]
  exact (((((BE.out.setCell (p := ⟨w.heap.size, 14, none⟩) (Nat.le_refl _) _).setCell (p := ⟨w.heap.size, 15, none⟩) (Nat.le_refl _) _).setCell (p := ⟨w.heap.size, 16, none⟩) (Nat.le_refl _) _).setCell (p := ⟨w.heap.size, 17, none⟩) (Nat.le_refl _) _).setCell (p := ⟨w.heap.size, 18, none⟩) (Nat.le_refl _) _).setCell (p := ⟨w.heap.size, 19, none⟩) (Nat.le_refl _) _
 rw [← hV]
 clear hV c14 c15 c16 c17 c18 c19 f14 f15 f16 f17 f18 f19 B0 B1 BE HXY h1 h2 h3 h4 h5 h6
 have Y1 : Hid ((Tryz.prog.info? 24).map (·.size) = some Y.size) := by show _ = _; rw [Y20.out.1]; kernel_rfl
 go_wp2_with (first
  | (refine wpList_load_row rfl 24 _ rfl w.heap.size rfl 24 Y (0, 0) _ V0.out Tryz.underlying24 rfl Y1.out ?_)
  | (refine wpList_store_row rfl 24 _ _ rfl (w.heap.size + 1) Y rfl rfl 24 zcs V1.out Y1.out (by rw [Y20.out.1]; rfl) Y20.out.2 ?_))
 refine bodyPost_ret (v := .agg Y) (results_cell_row Tryz.results4 _ _ (w.heap.size + 1) 24 Y (0, 0) _ rfl (setRow_heap V _ _ _ _ _ V1.out) Tryz.underlying24 rfl Y1.out) rfl ⟨rfl, Below.setRow VB.out (by omega) _⟩
def pzs : Array Value := #[.int .i64 0, .int .i64 0, .int .i64 0, .int .i64 0, .int .i64 0, .int .i64 0, .int .i64 0, .int .i64 0, .int .i64 0, .int .i64 0, .int .i64 0, .int .i64 0, .int .i64 0, .int .i64 0, .int .u32 0, .int .u32 0, .int .u32 0, .int .u32 0, .int .u32 0, .int .u32 0]
def bcs (c : Cf) : Array Value := #[.int .i64 c.L, .int .i64 c.w0, .int .i64 c.w1, .int .i64 c.w2, .int .i64 c.w3, .int .i64 c.bend, .int .i64 c.loss, .int .i64 c.rule, .int .i64 c.plan, .int .i64 c.batch, .int .i64 c.steps, .int .i64 c.every, .int .i64 c.span, .int .i64 c.warm, .int .u32 0, .int .u32 0, .int .u32 0, .int .u32 0, .int .u32 0, .int .u32 0]
theorem bcs_one (c : Cf) : (bcs c).all (·.oneCell') = true := by simp [bcs, Value.oneCell']
theorem pcs_set (c : Cf) :
 ((((((bcs c).setIfInBounds 14 (.int .u32 c.seed)).setIfInBounds 15 (.int .u32 c.rate)).setIfInBounds 16 (.int .u32 c.beta)).setIfInBounds 17 (.int .u32 c.gamma)).setIfInBounds 18 (.int .u32 c.small)).setIfInBounds 19 (.int .u32 c.clip) = pcs c := by
 simp [bcs, pcs, Array.setIfInBounds]
set_option maxHeartbeats 4000000 in
set_option maxRecDepth 100000 in
theorem conf_any (c : Cf) (w : World) (h : c.ok2) :
 Calls Tryz.prog 6 #[.agg (rcs c)] w fun e w' => e = .returned (.agg (pcs c)) ∧ Below w.heap.size w w' := by
 obtain ⟨X, hX⟩ : ∃ X, X = rcs c := ⟨_, rfl⟩
 obtain ⟨Y, hY⟩ : ∃ Y, Y = pcs c := ⟨_, rfl⟩
 obtain ⟨D, hD⟩ : ∃ D, D = bcs c := ⟨_, rfl⟩
 have HXY : Hid (((((((D.setIfInBounds 14 (.int .u32 c.seed)).setIfInBounds 15 (.int .u32 c.rate)).setIfInBounds 16 (.int .u32 c.beta)).setIfInBounds 17 (.int .u32 c.gamma)).setIfInBounds 18 (.int .u32 c.small)).setIfInBounds 19 (.int .u32 c.clip)) = Y) := by show _ = _; rw [hD, hY]; exact pcs_set c
 have Y20 : Hid (Y.size = 20 ∧ Y.all (·.oneCell') = true) := by show _ ∧ _; rw [hY]; exact ⟨rfl, pcs_one _⟩
 have D20 : Hid (D.size = 20 ∧ D.all (·.oneCell') = true) := by show _ ∧ _; rw [hD]; exact ⟨rfl, bcs_one _⟩
 have HDD : Hid _ := hD
 have X0 : Hid (X = rcs c) := hX
 rw [← hX, ← hY]
 obtain ⟨W, hW, b0, b1, bel, hws⟩ := two_blocks w X pzs 24 31
 have c0 : W.cell? ⟨w.heap.size, 0, none⟩ = some (.int .i64 c.L) := (cell_of_block b0 0).trans (by rw [hX]; rfl)
 have c1 : W.cell? ⟨w.heap.size, 1, none⟩ = some (.int .i64 c.w0) := (cell_of_block b0 1).trans (by rw [hX]; rfl)
 have c2 : W.cell? ⟨w.heap.size, 2, none⟩ = some (.int .i64 c.w1) := (cell_of_block b0 2).trans (by rw [hX]; rfl)
 have c3 : W.cell? ⟨w.heap.size, 3, none⟩ = some (.int .i64 c.w2) := (cell_of_block b0 3).trans (by rw [hX]; rfl)
 have c4 : W.cell? ⟨w.heap.size, 4, none⟩ = some (.int .i64 c.w3) := (cell_of_block b0 4).trans (by rw [hX]; rfl)
 have c5 : W.cell? ⟨w.heap.size, 5, none⟩ = some (.int .i64 c.bend) := (cell_of_block b0 5).trans (by rw [hX]; rfl)
 have c6 : W.cell? ⟨w.heap.size, 6, none⟩ = some (.int .i64 c.loss) := (cell_of_block b0 6).trans (by rw [hX]; rfl)
 have c7 : W.cell? ⟨w.heap.size, 7, none⟩ = some (.int .i64 c.rule) := (cell_of_block b0 7).trans (by rw [hX]; rfl)
 have c8 : W.cell? ⟨w.heap.size, 8, none⟩ = some (.int .i64 c.plan) := (cell_of_block b0 8).trans (by rw [hX]; rfl)
 have c9 : W.cell? ⟨w.heap.size, 9, none⟩ = some (.int .i64 c.batch) := (cell_of_block b0 9).trans (by rw [hX]; rfl)
 have c10 : W.cell? ⟨w.heap.size, 10, none⟩ = some (.int .i64 c.steps) := (cell_of_block b0 10).trans (by rw [hX]; rfl)
 have c11 : W.cell? ⟨w.heap.size, 11, none⟩ = some (.int .i64 c.every) := (cell_of_block b0 11).trans (by rw [hX]; rfl)
 have c12 : W.cell? ⟨w.heap.size, 12, none⟩ = some (.int .i64 c.span) := (cell_of_block b0 12).trans (by rw [hX]; rfl)
 have c13 : W.cell? ⟨w.heap.size, 13, none⟩ = some (.int .i64 c.warm) := (cell_of_block b0 13).trans (by rw [hX]; rfl)
 have B0 : Hid _ := b0
 have B1 : Hid _ := b1
 have BE : Hid (Below w.heap.size w W) := bel
 unfold pzs at hW
 have HW : Hid _ := hW
 have WN : Hid ((W.alloc (.cells pzs 31)).heap[w.heap.size + 2]? = some (.cells pzs 31 (0, 0))) := by show _ = _; rw [← hws]; exact heap_alloc_new W _
 have WO : Hid (∀ k, k < w.heap.size + 2 → (W.alloc (.cells pzs 31)).heap[k]? = W.heap[k]?) := fun k hk => Below.heap_alloc _ _ _ (by rw [hws]; exact hk)
 have WA : Hid (Below w.heap.size w (W.alloc (.cells pzs 31))) := bel.alloc (by rw [hws]; omega) _
 clear b0 b1 bel hW hX hY hD
 obtain ⟨⟨s0, s1⟩, ⟨r0, r1⟩, ⟨be0, be1⟩, ⟨g0, g1⟩, ⟨sm0, sm1⟩, ⟨cl0, cl1⟩⟩ := h
 have Y1 : Hid ((Tryz.prog.info? 31).map (·.size) = some Y.size) := by show _ = _; rw [Y20.out.1]; kernel_rfl
 have D1 : Hid ((Tryz.prog.info? 31).map (·.size) = some D.size) := by show _ = _; rw [D20.out.1]; kernel_rfl
 go_enter Tryz.func6, Tryz.ntmps6
 go_upto_region 1 with fail
 rw [HW.out]
 go_upto_region 2 with (first
  | (refine wpList_store_row rfl 31 _ _ rfl (w.heap.size + 2) D rfl (by rw [HDD.out]; rfl) 31 pzs WN.out D1.out (by rw [D20.out.1]; rfl) D20.out.2 ?_))
 obtain ⟨V, hV⟩ : ∃ V, V = (W.alloc (.cells pzs 31)).setRow (w.heap.size + 2) D := ⟨_, rfl⟩
 have V0 : V.heap[w.heap.size]? = some (.cells X 24 (0, 0)) := by rw [hV, setRow_other _ _ _ _ (by omega), WO.out _ (by omega)]; exact B0.out
 have V1 : V.heap[w.heap.size + 1]? = some (.cells pzs 31 (0, 0)) := by rw [hV, setRow_other _ _ _ _ (by omega), WO.out _ (by omega)]; exact B1.out
 have V2 : V.heap[w.heap.size + 2]? = some (.cells D 31 (0, 0)) := by rw [hV]; exact setRow_heap _ _ _ _ _ _ WN.out
 have VB : Hid (Below w.heap.size w V) := by show Below _ _ _; rw [hV]; exact Below.setRow WA.out (by omega) _
 unfold pzs at hV
 rw [← hV]
 clear hV c0 c1 c2 c3 c4 c5 c6 c7 c8 c9 c10 c11 c12 c13 B0 B1 BE WN WO WA HW
 have c14 : V.cell? ⟨w.heap.size, 14, none⟩ = some (.int .i64 c.seed) := (cell_of_block V0 14).trans (by rw [X0.out]; rfl)
 have d14 : V.cell? ⟨w.heap.size + 2, 14, none⟩ = some (.int .u32 0) := (cell_of_block V2 14).trans (by rw [HDD.out]; rfl)
 have f14 := unfrozen_of_block V2 14
 have c15 : V.cell? ⟨w.heap.size, 15, none⟩ = some (.int .i64 c.rate) := (cell_of_block V0 15).trans (by rw [X0.out]; rfl)
 have d15 : V.cell? ⟨w.heap.size + 2, 15, none⟩ = some (.int .u32 0) := (cell_of_block V2 15).trans (by rw [HDD.out]; rfl)
 have f15 := unfrozen_of_block V2 15
 have c16 : V.cell? ⟨w.heap.size, 16, none⟩ = some (.int .i64 c.beta) := (cell_of_block V0 16).trans (by rw [X0.out]; rfl)
 have d16 : V.cell? ⟨w.heap.size + 2, 16, none⟩ = some (.int .u32 0) := (cell_of_block V2 16).trans (by rw [HDD.out]; rfl)
 have f16 := unfrozen_of_block V2 16
 have c17 : V.cell? ⟨w.heap.size, 17, none⟩ = some (.int .i64 c.gamma) := (cell_of_block V0 17).trans (by rw [X0.out]; rfl)
 have d17 : V.cell? ⟨w.heap.size + 2, 17, none⟩ = some (.int .u32 0) := (cell_of_block V2 17).trans (by rw [HDD.out]; rfl)
 have f17 := unfrozen_of_block V2 17
 have c18 : V.cell? ⟨w.heap.size, 18, none⟩ = some (.int .i64 c.small) := (cell_of_block V0 18).trans (by rw [X0.out]; rfl)
 have d18 : V.cell? ⟨w.heap.size + 2, 18, none⟩ = some (.int .u32 0) := (cell_of_block V2 18).trans (by rw [HDD.out]; rfl)
 have f18 := unfrozen_of_block V2 18
 have c19 : V.cell? ⟨w.heap.size, 19, none⟩ = some (.int .i64 c.clip) := (cell_of_block V0 19).trans (by rw [X0.out]; rfl)
 have d19 : V.cell? ⟨w.heap.size + 2, 19, none⟩ = some (.int .u32 0) := (cell_of_block V2 19).trans (by rw [HDD.out]; rfl)
 have f19 := unfrozen_of_block V2 19
 have B2 : Hid _ := block_setCell (i := 19) (block_setCell (i := 18) (block_setCell (i := 17) (block_setCell (i := 16) (block_setCell (i := 15) (block_setCell (i := 14) V2 (.int .u32 c.seed)) (.int .u32 c.rate)) (.int .u32 c.beta)) (.int .u32 c.gamma)) (.int .u32 c.small)) (.int .u32 c.clip)
 have V1' : Hid _ := V1
 clear V0 V1 V2
 go_upto_region 8 with fail
 obtain ⟨U, hU⟩ : ∃ U, U = (((((V.setCell ⟨w.heap.size + 2, 14, none⟩ (.int .u32 c.seed)).setCell ⟨w.heap.size + 2, 15, none⟩ (.int .u32 c.rate)).setCell ⟨w.heap.size + 2, 16, none⟩ (.int .u32 c.beta)).setCell ⟨w.heap.size + 2, 17, none⟩ (.int .u32 c.gamma)).setCell ⟨w.heap.size + 2, 18, none⟩ (.int .u32 c.small)).setCell ⟨w.heap.size + 2, 19, none⟩ (.int .u32 c.clip) := ⟨_, rfl⟩
 have U0 : Hid (U.heap[w.heap.size + 2]? = some (.cells Y 31 (0, 0))) := by show _ = _; rw [hU, ← HXY.out]; exact B2.out
 have U1 : Hid (U.heap[w.heap.size + 1]? = some (.cells pzs 31 (0, 0))) := by
  show _ = _
  rw [hU]
  iterate 6 rw [Below.heap_setCell _ _ _ _ (by show w.heap.size + 1 ≠ w.heap.size + 2; omega)]
  exact V1'.out
 have UB : Hid (Below w.heap.size w U) := by
  show Below _ _ _
  rw [hU]
  have hle : w.heap.size ≤ w.heap.size + 2 := by omega
  exact (((((VB.out.setCell (p := ⟨w.heap.size + 2, 14, none⟩) hle _).setCell (p := ⟨w.heap.size + 2, 15, none⟩) hle _).setCell (p := ⟨w.heap.size + 2, 16, none⟩) hle _).setCell (p := ⟨w.heap.size + 2, 17, none⟩) hle _).setCell (p := ⟨w.heap.size + 2, 18, none⟩) hle _).setCell (p := ⟨w.heap.size + 2, 19, none⟩) hle _
 rw [← hU]
 clear hU c14 c15 c16 c17 c18 c19 d14 d15 d16 d17 d18 d19 f14 f15 f16 f17 f18 f19 B2 VB V1' HXY
 go_wp2_with (first
  | (refine wpList_load_row rfl 31 _ rfl (w.heap.size + 2) rfl 31 Y (0, 0) _ U0.out Tryz.underlying31 rfl Y1.out ?_)
  | (refine wpList_store_row rfl 31 _ _ rfl (w.heap.size + 1) Y rfl rfl 31 pzs U1.out Y1.out (by rw [Y20.out.1]; rfl) Y20.out.2 ?_))
 refine bodyPost_ret (v := .agg Y) (results_cell_row Tryz.results6 _ _ (w.heap.size + 1) 31 Y (0, 0) _ rfl (setRow_heap U _ _ _ _ _ U1.out) Tryz.underlying31 rfl Y1.out) rfl ⟨rfl, Below.setRow UB.out (by omega) _⟩
end Go.Proofs.YtoihkljlekknkaaGreat
/-
  Is it a configuration? The program's answer and the document's: one test. Conditions: none but that the numbers are ints.
-/
namespace Go.Proofs.YtoihkljlekknkaaGreat
open Go.RowKit
open Go.Joins (block_setCell cell_of_block unfrozen_of_block)
set_option linter.unusedVariables false
set_option linter.unusedSimpArgs false
def wd (c : Cf) : Nat → Int
 | 0 => c.w0
 | 1 => c.w1
 | 2 => c.w2
 | _ => c.w3
def okW (c : Cf) (k : Nat) : Bool := if (k : Int) ≤ c.L then inB (wd c k) 1 4 else wd c k == 0
def WID (c : Cf) : Bool := okW c 0 && okW c 1 && okW c 2 && okW c 3
theorem WID_t (c : Cf) (h : ∀ i, i < 4 → okW c i = true) : WID c = true := by
 unfold WID; rw [h 0 (by omega), h 1 (by omega), h 2 (by omega), h 3 (by omega)]; rfl
theorem WID_f (c : Cf) (i : Nat) (hi : i < 4) (h : okW c i = false) : WID c = false := by
 unfold WID
 match i, hi with
 | 0, _ => rw [h]; rfl
 | 1, _ => rw [h]; simp
 | 2, _ => rw [h]; simp
 | 3, _ => rw [h]; simp
theorem okW_in {c : Cf} {k : Nat} (h : (k : Int) ≤ c.L) : okW c k = inB (wd c k) 1 4 := by unfold okW; rw [if_pos h]
theorem okW_out {c : Cf} {k : Nat} (h : ¬ (k : Int) ≤ c.L) : okW c k = (wd c k == 0) := by unfold okW; rw [if_neg h]
/-- the block that a call lays of what it is handed -/
theorem one_block (w : World) (X : Array Value) (t : TypeId) : ∃ W, w.alloc (.cells X t) = W ∧ W.heap[w.heap.size]? = some (.cells X t (0, 0)) ∧ Below w.heap.size w W ∧ W.heap.size = w.heap.size + 1 :=
 ⟨_, rfl, heap_alloc_new w _, (Below.refl _ _).alloc (Nat.le_refl _) _, by simp⟩
theorem wide_0 (c : Cf) (w : World) : (Instr.index 22 (.agg #[.int .i64 c.w0, .int .i64 c.w1, .int .i64 c.w2, .int .i64 c.w3]) (.int .i64 0)).run Tryz.prog w = .ok (.int .i64 c.w0) w := by kernel_rfl
theorem wide_1 (c : Cf) (w : World) : (Instr.index 22 (.agg #[.int .i64 c.w0, .int .i64 c.w1, .int .i64 c.w2, .int .i64 c.w3]) (.int .i64 1)).run Tryz.prog w = .ok (.int .i64 c.w1) w := by kernel_rfl
theorem wide_2 (c : Cf) (w : World) : (Instr.index 22 (.agg #[.int .i64 c.w0, .int .i64 c.w1, .int .i64 c.w2, .int .i64 c.w3]) (.int .i64 2)).run Tryz.prog w = .ok (.int .i64 c.w2) w := by kernel_rfl
theorem wide_3 (c : Cf) (w : World) : (Instr.index 22 (.agg #[.int .i64 c.w0, .int .i64 c.w1, .int .i64 c.w2, .int .i64 c.w3]) (.int .i64 3)).run Tryz.prog w = .ok (.int .i64 c.w3) w := by kernel_rfl
theorem wide_at (c : Cf) (k : Nat) (hk : k < 4) (w : World) : (Instr.index 22 (.agg #[.int .i64 c.w0, .int .i64 c.w1, .int .i64 c.w2, .int .i64 c.w3]) (.int .i64 (k : Int))).run Tryz.prog w = .ok (.int .i64 (wd c k)) w := by
 rcases (show k = 0 ∨ k = 1 ∨ k = 2 ∨ k = 3 by omega) with rfl | rfl | rfl | rfl
 · exact wide_0 c w
 · exact wide_1 c w
 · exact wide_2 c w
 · exact wide_3 c w
set_option maxHeartbeats 2000000 in
set_option maxRecDepth 100000 in
theorem widths_any (c : Cf) (w : World) :
 Calls Tryz.prog 50 #[.agg (pcs c)] w fun e w' => e = .returned (.bool (WID c)) ∧ Below w.heap.size w w' := by
 obtain ⟨X, hX⟩ : ∃ X, X = pcs c := ⟨_, rfl⟩
 rw [← hX]
 obtain ⟨W, hW, b0, bel, hws⟩ := one_block w X 31
 have c0 : W.cell? ⟨w.heap.size, 0, none⟩ = some (.int .i64 c.L) := (cell_of_block b0 0).trans (by rw [hX]; rfl)
 have c1 : W.cell? ⟨w.heap.size, 1, none⟩ = some (.int .i64 c.w0) := (cell_of_block b0 1).trans (by rw [hX]; rfl)
 have c2 : W.cell? ⟨w.heap.size, 2, none⟩ = some (.int .i64 c.w1) := (cell_of_block b0 2).trans (by rw [hX]; rfl)
 have c3 : W.cell? ⟨w.heap.size, 3, none⟩ = some (.int .i64 c.w2) := (cell_of_block b0 3).trans (by rw [hX]; rfl)
 have c4 : W.cell? ⟨w.heap.size, 4, none⟩ = some (.int .i64 c.w3) := (cell_of_block b0 4).trans (by rw [hX]; rfl)
 have BE : Hid (Below w.heap.size w W) := bel
 have HW : Hid _ := hW
 clear b0 bel hW hX
 go_enter Tryz.func50, Tryz.ntmps50
 go_upto_region 1 with fail
 rw [HW.out]
 go_wp2
 clear c1 c2 c3 c4
 go_loop [7] (fun iv => ∃ k : Nat, k ≤ 4 ∧ iv = .int .i64 k ∧ Hid (∀ i, i < k → okW c i = true)) (fun iv => 4 - (intOf iv).toNat)
 case atStart => exact ⟨0, by omega, rfl, fun i h => absurd h (by omega)⟩
 case round =>
  obtain ⟨k, hk, rfl, OK⟩ := hrel
  by_cases hlt : k < 4
  · have hx := wide_at c k hlt
    have EQi : Hid ((k : Int) ≤ c.L → okW c k = inB (wd c k) 1 4) := okW_in
    have EQo : Hid (¬ (k : Int) ≤ c.L → okW c k = (wd c k == 0)) := okW_out
    have FF : Hid (okW c k = false → WID c = false) := WID_f c k hlt
    obtain ⟨x, hxx⟩ : ∃ x, x = wd c k := ⟨_, rfl⟩
    rw [← hxx] at hx EQi EQo
    clear hxx
    have hk4 : (k : Int) < 4 := by omega
    by_cases hL : (k : Int) ≤ c.L
    · cases hq : inB x 1 4
      · have R : Hid (WID c = false) := FF.out (by rw [EQi.out hL, hq])
        clear OK EQi EQo FF
        go_wp2_with (first | (go_at_call 49; refine (within_any _ _ _ _).mono ?_; rintro e w' ⟨rfl, hw'⟩; subst w'; rw [hq]))
        go_ret
        exact ⟨ret_bool R.out.symm, BE.out⟩
      · have R : Hid (okW c k = true) := by show _ = _; rw [EQi.out hL, hq]
        clear EQi EQo FF
        go_wp2_with (first | (go_at_call 49; refine (within_any _ _ _ _).mono ?_; rintro e w' ⟨rfl, hw'⟩; subst w'; rw [hq]))
        go_round
        case rel =>
         refine ⟨k + 1, by omega, by go_num, fun i hi => ?_⟩
         rcases Nat.lt_succ_iff_lt_or_eq.1 hi with h | h
         · exact OK.out i h
         · rw [h]; exact R.out
        case measure => simp [intOf]; omega
    · cases hq : (x == 0)
      · have R : Hid (WID c = false) := FF.out (by rw [EQo.out hL, hq])
        clear OK EQi EQo FF
        go_wp2
        go_ret
        exact ⟨ret_bool R.out.symm, BE.out⟩
      · have R : Hid (okW c k = true) := by show _ = _; rw [EQo.out hL, hq]
        clear EQi EQo FF
        go_wp2
        go_round
        case rel =>
         refine ⟨k + 1, by omega, by go_num, fun i hi => ?_⟩
         rcases Nat.lt_succ_iff_lt_or_eq.1 hi with h | h
         · exact OK.out i h
         · rw [h]; exact R.out
        case measure => simp [intOf]; omega
  · have R : Hid (WID c = true) := WID_t c fun i hi => OK.out i (by omega)
    clear OK
    go_wp2
    go_ret
    exact ⟨ret_bool R.out.symm, BE.out⟩
/-- is it a configuration? -/
def ALW (c : Cf) : Bool := inB c.L 1 3 && WID c && inB c.bend 0 2 && inB c.loss 0 1 && inB c.rule 0 1 && inB c.plan 0 2 && inB c.batch 1 4 && inB c.steps 0 200 && inB c.every 1 200 && inB c.span 1 200 && inB c.warm 0 c.steps
theorem wpList_load_row_g {P : Program} {ops : Array Oper} {rest : List Oper} {o : Oper} {a : Act} {w : World} {Q : Exit → Act → World → Prop} (hw : Region.wanted o (yielded ops a.tmps) = true) (ty : TypeId) (x : Operand) (ho : o.op = .load ty x)
 (g : Nat) (hx : a.eval x = .pointer (some ⟨g, 0, none⟩)) (t : TypeId) (cs : Array Value) (fr : Nat × Nat) (d : TypeDesc) (hg : w.heap[g]? = some (.cells cs t fr))
 (hu : P.underlying ty = some d) (hd : (match d with | .struct _ | .array _ _ => true | _ => false) = true) (hi : (P.info? ty).map (·.size) = some cs.size)
 (h : wpList P ops Q rest (a.put o.dst (.agg cs)) w) : wpList P ops Q (o :: rest) a w := by
 simp only [wpList, hw, if_true]
 exact Or.inl (wp_load_row ty x ho g hx t cs fr d hg hu hd hi h)
set_option maxHeartbeats 4000000 in
set_option maxRecDepth 100000 in
theorem isConfig_any (c : Cf) (w : World) :
 Calls Tryz.prog 20 #[.agg (pcs c)] w fun e w' => e = .returned (.bool (ALW c)) ∧ Below w.heap.size w w' := by
 obtain ⟨X, hX⟩ : ∃ X, X = pcs c := ⟨_, rfl⟩
 rw [← hX]
 obtain ⟨W, hW, b0, bel, hws⟩ := one_block w X 31
 have c0 : W.cell? ⟨w.heap.size, 0, none⟩ = some (.int .i64 c.L) := (cell_of_block b0 0).trans (by rw [hX]; rfl)
 have c5 : W.cell? ⟨w.heap.size, 5, none⟩ = some (.int .i64 c.bend) := (cell_of_block b0 5).trans (by rw [hX]; rfl)
 have c6 : W.cell? ⟨w.heap.size, 6, none⟩ = some (.int .i64 c.loss) := (cell_of_block b0 6).trans (by rw [hX]; rfl)
 have c7 : W.cell? ⟨w.heap.size, 7, none⟩ = some (.int .i64 c.rule) := (cell_of_block b0 7).trans (by rw [hX]; rfl)
 have c8 : W.cell? ⟨w.heap.size, 8, none⟩ = some (.int .i64 c.plan) := (cell_of_block b0 8).trans (by rw [hX]; rfl)
 have c9 : W.cell? ⟨w.heap.size, 9, none⟩ = some (.int .i64 c.batch) := (cell_of_block b0 9).trans (by rw [hX]; rfl)
 have c10 : W.cell? ⟨w.heap.size, 10, none⟩ = some (.int .i64 c.steps) := (cell_of_block b0 10).trans (by rw [hX]; rfl)
 have c11 : W.cell? ⟨w.heap.size, 11, none⟩ = some (.int .i64 c.every) := (cell_of_block b0 11).trans (by rw [hX]; rfl)
 have c12 : W.cell? ⟨w.heap.size, 12, none⟩ = some (.int .i64 c.span) := (cell_of_block b0 12).trans (by rw [hX]; rfl)
 have c13 : W.cell? ⟨w.heap.size, 13, none⟩ = some (.int .i64 c.warm) := (cell_of_block b0 13).trans (by rw [hX]; rfl)
 have B0 : Hid _ := b0
 have BE : Hid (Below w.heap.size w W) := bel
 have HW : Hid _ := hW
 have HX : Hid _ := hX
 have X1 : Hid ((Tryz.prog.info? 31).map (·.size) = some X.size) := by show _ = _; rw [hX]; kernel_rfl
 have WS : Hid (w.heap.size ≤ W.heap.size) := by show _ ≤ _; omega
 have WT : Hid (w.heap.size < W.heap.size) := by show _ < _; omega
 clear b0 bel hW hX hws
 cases h1 : inB c.L 1 3
 · have R : Hid (ALW c = false) := by show _ = _; unfold ALW; rw [h1]; rfl
   go_enter Tryz.func20, Tryz.ntmps20
   go_upto_region 1 with fail
   rw [HW.out]
   go_wp2_with (first | (go_at_call 49; refine (within_any _ _ _ _).mono ?_; rintro e w' ⟨rfl, hw'⟩; subst w'; rw [h1]))
   go_ret
   exact ⟨ret_bool R.out.symm, BE.out⟩
 · cases h2 : WID c
   · have R : Hid (ALW c = false) := by show _ = _; unfold ALW; rw [h1, h2]; rfl
     go_enter Tryz.func20, Tryz.ntmps20
     go_upto_region 1 with fail
     rw [HW.out]
     go_wp2_with (first
      | (go_at_call 49; refine (within_any _ _ _ _).mono ?_; rintro e w' ⟨rfl, hw'⟩; subst w'; rw [h1])
      | (go_at_call 50; rw [HX.out]; refine (widths_any c _).mono ?_; rintro e w' ⟨rfl, hb⟩; rw [h2]; have HB : Hid _ := hb; clear hb)
      | (refine wpList_load_row_g rfl 31 _ rfl w.heap.size rfl 31 X (0, 0) _ B0.out Tryz.underlying31 rfl X1.out ?_))
     go_ret
     exact ⟨ret_bool R.out.symm, BE.out.trans (HB.out.mono WS.out)⟩
   · go_enter Tryz.func20, Tryz.ntmps20
     go_upto_region 1 with fail
     rw [HW.out]
     go_wp2_with (first
      | (go_at_call 49; refine (within_any _ _ _ _).mono ?_; rintro e w' ⟨rfl, hw'⟩; subst w'; first | rw [h1] | skip)
      | (go_at_call 50; rw [HX.out]; refine (widths_any c _).mono ?_; rintro e w' ⟨rfl, hb⟩; rw [h2]; have BW2 : Hid (Below w.heap.size w w') := BE.out.trans (hb.mono WS.out)
         have d5 := (hb.cell (p := ⟨w.heap.size, 5, none⟩) WT.out).trans c5
         have d6 := (hb.cell (p := ⟨w.heap.size, 6, none⟩) WT.out).trans c6
         have d7 := (hb.cell (p := ⟨w.heap.size, 7, none⟩) WT.out).trans c7
         have d8 := (hb.cell (p := ⟨w.heap.size, 8, none⟩) WT.out).trans c8
         have d9 := (hb.cell (p := ⟨w.heap.size, 9, none⟩) WT.out).trans c9
         have d10 := (hb.cell (p := ⟨w.heap.size, 10, none⟩) WT.out).trans c10
         have d11 := (hb.cell (p := ⟨w.heap.size, 11, none⟩) WT.out).trans c11
         have d12 := (hb.cell (p := ⟨w.heap.size, 12, none⟩) WT.out).trans c12
         have d13 := (hb.cell (p := ⟨w.heap.size, 13, none⟩) WT.out).trans c13
         clear hb c0 c5 c6 c7 c8 c9 c10 c11 c12 c13)
      | (refine wpList_load_row_g rfl 31 _ rfl w.heap.size rfl 31 X (0, 0) _ B0.out Tryz.underlying31 rfl X1.out ?_))
     all_goals go_ret
     all_goals refine ⟨ret_bool ?_, BW2.out⟩
     all_goals simp_all [ALW]
end Go.Proofs.YtoihkljlekknkaaGreat
/-
  Is it a configuration? The document's answer. Conditions: none but that the numbers are ints.
-/
namespace Go.Proofs.YtoihkljlekknkaaGreat
open Go.RowKit
open Go.Joins (block_setCell cell_of_block unfrozen_of_block)
set_option linter.unusedVariables false
set_option linter.unusedSimpArgs false
theorem rcs_wide (c : Cf) (k : Nat) (hk : k < 4) : (rcs c)[1 + k]? = some (.int .i64 (wd c k)) := by
 rcases (show k = 0 ∨ k = 1 ∨ k = 2 ∨ k = 3 by omega) with rfl | rfl | rfl | rfl <;> rfl
theorem ALW_wid (c : Cf) (h : WID c = false) : ALW c = false := by unfold ALW; rw [h]; simp
set_option maxHeartbeats 4000000 in
set_option maxRecDepth 100000 in
theorem allowed_any (c : Cf) (w : World) :
 Calls Tryz.prog 34 #[.agg (rcs c)] w fun e w' => e = .returned (.bool (ALW c)) ∧ Below w.heap.size w w' := by
 obtain ⟨X, hX⟩ : ∃ X, X = rcs c := ⟨_, rfl⟩
 rw [← hX]
 obtain ⟨W, hW, b0, bel, hws⟩ := one_block w X 24
 have c0 : W.cell? ⟨w.heap.size, 0, none⟩ = some (.int .i64 c.L) := (cell_of_block b0 0).trans (by rw [hX]; rfl)
 have c5 : W.cell? ⟨w.heap.size, 5, none⟩ = some (.int .i64 c.bend) := (cell_of_block b0 5).trans (by rw [hX]; rfl)
 have c6 : W.cell? ⟨w.heap.size, 6, none⟩ = some (.int .i64 c.loss) := (cell_of_block b0 6).trans (by rw [hX]; rfl)
 have c7 : W.cell? ⟨w.heap.size, 7, none⟩ = some (.int .i64 c.rule) := (cell_of_block b0 7).trans (by rw [hX]; rfl)
 have c8 : W.cell? ⟨w.heap.size, 8, none⟩ = some (.int .i64 c.plan) := (cell_of_block b0 8).trans (by rw [hX]; rfl)
 have c9 : W.cell? ⟨w.heap.size, 9, none⟩ = some (.int .i64 c.batch) := (cell_of_block b0 9).trans (by rw [hX]; rfl)
 have c10 : W.cell? ⟨w.heap.size, 10, none⟩ = some (.int .i64 c.steps) := (cell_of_block b0 10).trans (by rw [hX]; rfl)
 have c11 : W.cell? ⟨w.heap.size, 11, none⟩ = some (.int .i64 c.every) := (cell_of_block b0 11).trans (by rw [hX]; rfl)
 have c12 : W.cell? ⟨w.heap.size, 12, none⟩ = some (.int .i64 c.span) := (cell_of_block b0 12).trans (by rw [hX]; rfl)
 have c13 : W.cell? ⟨w.heap.size, 13, none⟩ = some (.int .i64 c.warm) := (cell_of_block b0 13).trans (by rw [hX]; rfl)
 have cw : Hid (∀ k, k < 4 → W.cell? ⟨w.heap.size, 1 + k, none⟩ = some (.int .i64 (wd c k))) := fun k hk => (cell_of_block b0 (1 + k)).trans (by rw [hX]; exact rcs_wide c k hk)
 have BE : Hid (Below w.heap.size w W) := bel
 have HW : Hid _ := hW
 clear b0 bel hW hX hws
 cases hG : (inB c.L 1 3 && inB c.bend 0 2 && inB c.loss 0 1 && inB c.rule 0 1 && inB c.plan 0 2 && inB c.batch 1 4)
 · have R : Hid (ALW c = false) := by
    show _ = _
    unfold ALW
    revert hG
    cases inB c.L 1 3 <;> cases inB c.bend 0 2 <;> cases inB c.loss 0 1 <;> cases inB c.rule 0 1 <;> cases inB c.plan 0 2 <;> cases inB c.batch 1 4 <;> simp
   go_enter Tryz.func34, Tryz.ntmps34
   go_upto_region 1 with fail
   rw [HW.out]
   go_wp2_with (first | (go_at_call 68; refine (rin_any _ _ _ _).mono ?_; rintro e w' ⟨rfl, hw'⟩; subst w'))
   all_goals first
    | (go_ret; exact ⟨ret_bool R.out.symm, BE.out⟩)
    | (exfalso; simp_all)
 · have G : Hid (inB c.L 1 3 = true ∧ inB c.bend 0 2 = true ∧ inB c.loss 0 1 = true ∧ inB c.rule 0 1 = true ∧ inB c.plan 0 2 = true ∧ inB c.batch 1 4 = true) := by
    show _ ∧ _
    simp only [Bool.and_eq_true] at hG
    exact ⟨hG.1.1.1.1.1, hG.1.1.1.1.2, hG.1.1.1.2, hG.1.1.2, hG.1.2, hG.2⟩
   clear hG
   go_enter Tryz.func34, Tryz.ntmps34
   go_upto_region 1 with fail
   rw [HW.out]
   go_upto_region 3 with (first | (go_at_call 68; refine (rin_any _ _ _ _).mono ?_; rintro e w' ⟨rfl, hw'⟩; subst w'; first | rw [G.out.1] | rw [G.out.2.1] | rw [G.out.2.2.1] | rw [G.out.2.2.2.1] | rw [G.out.2.2.2.2.1] | rw [G.out.2.2.2.2.2]))
   clear c5 c6 c7 c8 c9
   go_wp2
   go_loop [3] (fun iv => ∃ k : Nat, k ≤ 4 ∧ iv = .int .i64 k ∧ Hid (∀ i, i < k → okW c i = true)) (fun iv => 4 - (intOf iv).toNat)
   case atStart => exact ⟨0, by omega, rfl, fun i h => absurd h (by omega)⟩
   case round =>
    obtain ⟨k, hk, rfl, OK⟩ := hrel
    by_cases hlt : k < 4
    · have hx := cw.out k hlt
      have EQi : Hid ((k : Int) ≤ c.L → okW c k = inB (wd c k) 1 4) := okW_in
      have EQo : Hid (¬ (k : Int) ≤ c.L → okW c k = (wd c k == 0)) := okW_out
      have FF : Hid (okW c k = false → ALW c = false) := fun h => ALW_wid c (WID_f c k hlt h)
      obtain ⟨x, hxx⟩ : ∃ x, x = wd c k := ⟨_, rfl⟩
      rw [← hxx] at hx EQi EQo
      clear hxx
      have hk4 : (k : Int) < 4 := by omega
      by_cases hL : (k : Int) ≤ c.L
      · cases hq : inB x 1 4
        · have R : Hid (ALW c = false) := FF.out (by rw [EQi.out hL, hq])
          clear OK EQi EQo FF
          go_wp2_with (first | (go_at_call 68; refine (rin_any _ _ _ _).mono ?_; rintro e w' ⟨rfl, hw'⟩; subst w'; rw [hq]))
          go_ret
          exact ⟨ret_bool R.out.symm, BE.out⟩
        · have R : Hid (okW c k = true) := by show _ = _; rw [EQi.out hL, hq]
          clear EQi EQo FF
          go_wp2_with (first | (go_at_call 68; refine (rin_any _ _ _ _).mono ?_; rintro e w' ⟨rfl, hw'⟩; subst w'; rw [hq]))
          go_round
          case rel =>
           refine ⟨k + 1, by omega, by go_num, fun i hi => ?_⟩
           rcases Nat.lt_succ_iff_lt_or_eq.1 hi with h | h
           · exact OK.out i h
           · rw [h]; exact R.out
          case measure => simp [intOf]; omega
      · cases hq : (x == 0)
        · have R : Hid (ALW c = false) := FF.out (by rw [EQo.out hL, hq])
          clear OK EQi EQo FF
          go_wp2
          go_ret
          exact ⟨ret_bool R.out.symm, BE.out⟩
        · have R : Hid (okW c k = true) := by show _ = _; rw [EQo.out hL, hq]
          clear EQi EQo FF
          go_wp2
          go_round
          case rel =>
           refine ⟨k + 1, by omega, by go_num, fun i hi => ?_⟩
           rcases Nat.lt_succ_iff_lt_or_eq.1 hi with h | h
           · exact OK.out i h
           · rw [h]; exact R.out
          case measure => simp [intOf]; omega
    · have R : Hid (WID c = true) := WID_t c fun i hi => OK.out i (by omega)
      clear OK
      go_wp2_with (first | (go_at_call 68; refine (rin_any _ _ _ _).mono ?_; rintro e w' ⟨rfl, hw'⟩; subst w'))
      all_goals go_ret
      all_goals refine ⟨ret_bool ?_, BE.out⟩
      all_goals have R' := R.out
      all_goals have G' := G.out
      all_goals simp_all [ALW]
end Go.Proofs.YtoihkljlekknkaaGreat
