/-
  The document's state in memory: a number and three rows that grow. Conditions: fewer than 2^40 entries.
-/
import Derived.Test.YtoihkljlekknkaaGreatAr8
import Derived.Test.YtoihkljlekknkaaGreatAp23
import Derived.Test.YtoihkljlekknkaaGreatAp7
import Derived.Test.YtoihkljlekknkaaGreatAr7
namespace Go.Proofs.YtoihkljlekknkaaGreat
open Go.RowKit
open Go.Joins (cell_of_block unfrozen_of_block)
set_option linter.unusedVariables false
set_option linter.unusedSimpArgs false
/-- two rows lie in two blocks -/
def Apart (u v : Value) : Prop := ∀ a, u.ownBlock = some a → v.ownBlock = some a → False
theorem Apart.symm {u v : Value} (h : Apart u v) : Apart v u := fun a h1 h2 => h a h2 h1
def D3c (st : Int) (vP vV vM : Value) : Array Value := #[.int .i64 st, vP, vV, vM]
structure D3 (B base : Nat) (st : Int) (vP vV vM : Value) (lp lv lm : List Int) (w : World) : Prop where
 blk : w.heap[B]? = some (.cells (D3c st vP vV vM) 52 (0, 0))
 oP : OutI w base vP lp
 oV : OutI w base vV lv
 oM : OutI w base vM lm
 pv : Apart vP vV
 pm : Apart vP vM
 vm : Apart vV vM
 bB : B < base
 bs : base ≤ w.heap.size
theorem D3.below {B base : Nat} {st : Int} {vP vV vM : Value} {lp lv lm : List Int} {w w' : World} (h : D3 B base st vP vV vM lp lv lm w) (b : Below w.heap.size w w') : D3 B base st vP vV vM lp lv lm w' :=
 ⟨(b.block _ (lt_of_heap h.blk)).trans h.blk, owns_below h.oP b, owns_below h.oV b, owns_below h.oM b, h.pv, h.pm, h.vm, h.bB, Nat.le_trans h.bs b.size⟩
/-- a row that another one's growth did not touch -/
theorem out_grown {w w' : World} {base : Nat} {u v : Value} {l : List Int} (h : OutI w base v l) (g : w.grownBy w' u.ownBlock) (a : Apart u v) : OutI w' base v l := by
 refine ⟨h.1, ?_⟩
 rcases h.2 with h' | ⟨k, cap, cur, rfl, h1, h2, h3⟩
 · exact Or.inl h'
 · have hk := World.ownsRow.lt h k rfl
   refine Or.inr ⟨k, cap, cur, rfl, h1, ?_, h3⟩
   rw [g.block k hk.2 (fun e => a k e.symm rfl)]; exact h2
theorem out_set {w : World} {base B o : Nat} {v x : Value} {l : List Int} (h : OutI w base v l) (hB : B < base) : OutI (w.setCell ⟨B, o, none⟩ x) base v l := by
 refine ⟨h.1, ?_⟩
 rcases h.2 with h' | ⟨k, cap, cur, rfl, h1, h2, h3⟩
 · exact Or.inl h'
 · refine Or.inr ⟨k, cap, cur, rfl, h1, ?_, h3⟩
   rw [heap_set_ne w B o k x (by omega)]; exact h2
/-- what holds behind an append to one of the rows, with the new row stored -/
theorem grow_one {w w5 : World} {base : Nat} {u v : Value} {l : List Int} {g2 n cap : Nat} (hv : OutI w base v l) (a : Apart u v) (hg : w.grownBy w5 u.ownBlock) (hat : u.ownBlock = some g2 ∨ g2 = w.heap.size) : OutI w5 base v l ∧ Apart (.slice (some ⟨g2, 0, none⟩) n cap) v := by
 refine ⟨out_grown hv hg a, fun k h1 h2 => ?_⟩
 have e : k = g2 := by simpa [Value.ownBlock] using h1.symm
 subst e
 rcases hat with h | h
 · exact a k h h2
 · have := (World.ownsRow.lt hv k h2).2; omega
theorem blk_grown {w w5 : World} {base B : Nat} {u : Value} {l : List Int} {o : Obj} (hu : OutI w base u l) (hB : B < base) (hs : base ≤ w.heap.size) (hb : w.heap[B]? = some o) (hg : w.grownBy w5 u.ownBlock) : w5.heap[B]? = some o := by
 rw [hg.block B (by omega) (fun e => by have := (World.ownsRow.lt hu B e.symm).1; omega)]; exact hb
theorem D3.app1 {B base : Nat} {st : Int} {vP vV vM : Value} {lp lv lm : List Int} {w w5 : World} {g2 cap : Nat} {y : Int} (h : D3 B base st vP vV vM lp lv lm w) (ho : OutI w5 base (.slice (some ⟨g2, 0, none⟩) (lp.length + 1) cap) (lp ++ [y])) (hg : w.grownBy w5 vP.ownBlock) (hat : vP.ownBlock = some g2 ∨ g2 = w.heap.size) :
 D3 B base st (.slice (some ⟨g2, 0, none⟩) (lp.length + 1) cap) vV vM (lp ++ [y]) lv lm (w5.setCell ⟨B, 1, none⟩ (.slice (some ⟨g2, 0, none⟩) (lp.length + 1) cap)) := by
 have b5 := blk_grown h.oP h.bB h.bs h.blk hg
 have a1 := grow_one (n := lp.length + 1) (cap := cap) h.oV h.pv hg hat
 have a2 := grow_one (n := lp.length + 1) (cap := cap) h.oM h.pm hg hat
 exact ⟨by rw [heap_set w5 B 1 _ _ 52 (0, 0) b5]; rfl, out_set ho h.bB, out_set a1.1 h.bB, out_set a2.1 h.bB, a1.2, a2.2, h.vm, h.bB, by simp [World.setCell]; exact Nat.le_trans h.bs hg.size⟩
theorem D3.app2 {B base : Nat} {st : Int} {vP vV vM : Value} {lp lv lm : List Int} {w w5 : World} {g2 cap : Nat} {y : Int} (h : D3 B base st vP vV vM lp lv lm w) (ho : OutI w5 base (.slice (some ⟨g2, 0, none⟩) (lv.length + 1) cap) (lv ++ [y])) (hg : w.grownBy w5 vV.ownBlock) (hat : vV.ownBlock = some g2 ∨ g2 = w.heap.size) :
 D3 B base st vP (.slice (some ⟨g2, 0, none⟩) (lv.length + 1) cap) vM lp (lv ++ [y]) lm (w5.setCell ⟨B, 2, none⟩ (.slice (some ⟨g2, 0, none⟩) (lv.length + 1) cap)) := by
 have b5 := blk_grown h.oV h.bB h.bs h.blk hg
 have a1 := grow_one (n := lv.length + 1) (cap := cap) h.oP h.pv.symm hg hat
 have a2 := grow_one (n := lv.length + 1) (cap := cap) h.oM h.vm hg hat
 exact ⟨by rw [heap_set w5 B 2 _ _ 52 (0, 0) b5]; rfl, out_set a1.1 h.bB, out_set ho h.bB, out_set a2.1 h.bB, a1.2.symm, h.pm, a2.2, h.bB, by simp [World.setCell]; exact Nat.le_trans h.bs hg.size⟩
theorem D3.app3 {B base : Nat} {st : Int} {vP vV vM : Value} {lp lv lm : List Int} {w w5 : World} {g2 cap : Nat} {y : Int} (h : D3 B base st vP vV vM lp lv lm w) (ho : OutI w5 base (.slice (some ⟨g2, 0, none⟩) (lm.length + 1) cap) (lm ++ [y])) (hg : w.grownBy w5 vM.ownBlock) (hat : vM.ownBlock = some g2 ∨ g2 = w.heap.size) :
 D3 B base st vP vV (.slice (some ⟨g2, 0, none⟩) (lm.length + 1) cap) lp lv (lm ++ [y]) (w5.setCell ⟨B, 3, none⟩ (.slice (some ⟨g2, 0, none⟩) (lm.length + 1) cap)) := by
 have b5 := blk_grown h.oM h.bB h.bs h.blk hg
 have a1 := grow_one (n := lm.length + 1) (cap := cap) h.oP h.pm.symm hg hat
 have a2 := grow_one (n := lm.length + 1) (cap := cap) h.oV h.vm.symm hg hat
 exact ⟨by rw [heap_set w5 B 3 _ _ 52 (0, 0) b5]; rfl, out_set a1.1 h.bB, out_set a2.1 h.bB, out_set ho h.bB, h.pv, a1.2.symm, a2.2.symm, h.bB, by simp [World.setCell]; exact Nat.le_trans h.bs hg.size⟩
/-- what is old stays, behind an append and a store -/
theorem below_app {w0 w w5 : World} {base B o : Nat} {u x : Value} {l : List Int} (b : Below w0.heap.size w0 w) (hu : OutI w base u l) (hw : w0.heap.size ≤ B) (hB : B < base) (hg : w.grownBy w5 u.ownBlock) : Below w0.heap.size w0 (w5.setCell ⟨B, o, none⟩ x) :=
 (b.grown hg b.size (fun k hk => by have := (World.ownsRow.lt hu k hk).1; omega)).setCell (p := ⟨B, o, none⟩) hw x
theorem D3.alloc {B base : Nat} {st : Int} {vP vV vM : Value} {lp lv lm : List Int} {w : World} (h : D3 B base st vP vV vM lp lv lm w) (o : Obj) : D3 B base st vP vV vM lp lv lm (w.alloc o) := h.below ((Below.refl _ _).alloc (Nat.le_refl _) _)
theorem infoS3 (st : Int) (vP vV vM : Value) : (Tryz.prog.info? 52).map (·.size) = some (D3c st vP vV vM).size := by show _ = some 4; kernel_rfl
end Go.Proofs.YtoihkljlekknkaaGreat
/-
  Rows of rows, by the document: the answers and the sums of the layers so far. Conditions: the rows lie apart.
-/
namespace Go.Proofs.YtoihkljlekknkaaGreat
open Go.RowKit
open Go.Joins (cell_of_block unfrozen_of_block)
set_option linter.unusedVariables false
set_option linter.unusedSimpArgs false
/-- a row of rows of our own -/
def OutV (w : World) (base : Nat) (v : Value) (xs : List Value) : Prop := w.ownsRow base 47 1 v xs.length xs
theorem Tryz.infoV : (Tryz.prog.info? 47).map (fun i => (i.zero, i.size, i.bytes)) = some (some (.slice none 0 0), 1, 24) := by kernel_rfl
theorem Tryz.under128 : Tryz.prog.underlying 128 = some (.slice 47) := by kernel_rfl
theorem kind_apart {w : World} {a b : Nat} {u v : Value} {xs : List Value} {l : List Int} (hu : OutV w a u xs) (hv : OutI w b v l) : Apart u v := fun k h1 h2 => by
 rcases hv.2 with ⟨rfl, _⟩ | ⟨g, cap, cur, rfl, _, h3, _⟩
 · simp [Value.ownBlock] at h2
 · have e : g = k := by simpa [Value.ownBlock] using h2
   subst e
   exact owns_kind hu h1 h3 (by decide)
theorem outV_grown {w w' : World} {base : Nat} {u v : Value} {xs : List Value} (h : OutV w base v xs) (g : w.grownBy w' u.ownBlock) (a : Apart u v) : OutV w' base v xs := by
 refine ⟨h.1, ?_⟩
 rcases h.2 with h' | ⟨k, cap, cur, rfl, h1, h2, h3⟩
 · exact Or.inl h'
 · have hk := World.ownsRow.lt h k rfl
   refine Or.inr ⟨k, cap, cur, rfl, h1, ?_, h3⟩
   rw [g.block k hk.2 (fun e => a k e.symm rfl)]; exact h2
theorem apart_new {w : World} {base : Nat} {u v : Value} {xs : List Value} {g2 n cap : Nat} (hv : OutV w base v xs) (a : Apart u v) (hat : u.ownBlock = some g2 ∨ g2 = w.heap.size) : Apart (.slice (some ⟨g2, 0, none⟩) n cap) v := fun k h1 h2 => by
 have e : k = g2 := by simpa [Value.ownBlock] using h1.symm
 subst e
 rcases hat with h | h
 · exact a k h h2
 · have := (World.ownsRow.lt hv k h2).2; omega
theorem rowV_at {w : World} {base : Nat} {v : Value} {xs : List Value} (h : OutV w base v xs) : ∃ a cap, v = .slice a xs.length cap ∧ (0 < xs.length → ∃ g, a = some ⟨g, 0, none⟩ ∧ g < w.heap.size ∧ ∀ i, i < xs.length → w.cell? ⟨g, i, none⟩ = xs[i]?) := by
 rcases Go.Joins.ownsRow_forms h with ⟨rfl, h0⟩ | ⟨g, cap, rfl⟩
 · exact ⟨_, _, by rw [h0], fun q => absurd q (by omega)⟩
 · exact ⟨_, _, rfl, fun _ => ⟨g, rfl, (World.ownsRow.lt h g rfl).2, fun i hi => World.ownsRow.cellAt h i (by omega)⟩⟩
/-- the answers and the sums of the first layers -/
structure SlA (c : Cf) (par x : List Int) (m base j q : Nat) (av sv : Value) (vA vS : Nat → Value) (w : World) : Prop where
 oA : OutV w base av ((List.range (j + 1)).map vA)
 oS : OutV w base sv (.slice none 0 0 :: (List.range q).map vS)
 ap : Apart av sv
 iA : ∀ i, i ≤ j → i ≤ m → OutI w 0 (vA i) (AN c par x i)
 iS : ∀ i, i < q → OutI w 0 (vS i) (SM c par x i)
 bs : base ≤ w.heap.size
theorem SlA.below {c : Cf} {par x : List Int} {m base j q : Nat} {av sv : Value} {vA vS : Nat → Value} {w w' : World} (h : SlA c par x m base j q av sv vA vS w) (b : Below w.heap.size w w') : SlA c par x m base j q av sv vA vS w' :=
 ⟨owns_below h.oA b, owns_below h.oS b, h.ap, fun i h1 h2 => owns_below (h.iA i h1 h2) b, fun i hi => owns_below (h.iS i hi) b, Nat.le_trans h.bs b.size⟩
/-- a layer's sums are put behind the others -/
theorem SlA.appS {c : Cf} {par x : List Int} {m base j : Nat} {av sv : Value} {vA vS : Nat → Value} {w w5 : World} {g2 cap : Nat} {s : Value} (h : SlA c par x m base j j av sv vA vS w) (hs : OutI w 0 s (SM c par x j)) (ho : OutV w5 base (.slice (some ⟨g2, 0, none⟩) (j + 1 + 1) cap) ((.slice none 0 0 :: (List.range j).map vS) ++ [s])) (hg : w.grownBy w5 sv.ownBlock) (hat : sv.ownBlock = some g2 ∨ g2 = w.heap.size) :
 SlA c par x m base j (j + 1) av (.slice (some ⟨g2, 0, none⟩) (j + 1 + 1) cap) vA (fun i => if i = j then s else vS i) w5 := by
 have e : (List.range j).map (fun i => if i = j then s else vS i) = (List.range j).map vS := List.map_congr_left fun i hi => by
  rw [if_neg (by have := List.mem_range.1 hi; omega)]
 refine ⟨outV_grown h.oA hg h.ap.symm, ?_, (apart_new h.oA h.ap.symm hat).symm, fun i h1 h2 => out_grown (h.iA i h1 h2) hg (kind_apart h.oS (h.iA i h1 h2)), fun i hi => ?_, Nat.le_trans h.bs hg.size⟩
 · rw [List.range_succ, List.map_append, e]
   simp only [List.map_cons, List.map_nil, if_true]
   exact ho
 · by_cases q : i = j
   · rw [if_pos q, q]; exact out_grown hs hg (kind_apart h.oS hs)
   · rw [if_neg q]; exact out_grown (h.iS i (by omega)) hg (kind_apart h.oS (h.iS i (by omega)))
/-- a layer's answers are put behind the others -/
theorem SlA.appA {c : Cf} {par x : List Int} {m base j : Nat} {av sv : Value} {vA vS : Nat → Value} {w w5 : World} {g2 cap : Nat} {s : Value} (h : SlA c par x m base j (j + 1) av sv vA vS w) (hs : j + 1 ≤ m → OutI w 0 s (AN c par x (j + 1))) (ho : OutV w5 base (.slice (some ⟨g2, 0, none⟩) (j + 1 + 1) cap) ((List.range (j + 1)).map vA ++ [s])) (hg : w.grownBy w5 av.ownBlock) (hat : av.ownBlock = some g2 ∨ g2 = w.heap.size) :
 SlA c par x m base (j + 1) (j + 1) (.slice (some ⟨g2, 0, none⟩) (j + 1 + 1) cap) sv (fun i => if i = j + 1 then s else vA i) vS w5 := by
 have e : (List.range (j + 1)).map (fun i => if i = j + 1 then s else vA i) = (List.range (j + 1)).map vA := List.map_congr_left fun i hi => by
  rw [if_neg (by have := List.mem_range.1 hi; omega)]
 refine ⟨?_, outV_grown h.oS hg h.ap, apart_new h.oS h.ap hat, fun i h1 h2 => ?_, fun i hi => out_grown (h.iS i hi) hg (kind_apart h.oA (h.iS i hi)), Nat.le_trans h.bs hg.size⟩
 · rw [List.range_succ, List.map_append, e]
   simp only [List.map_cons, List.map_nil, if_true]
   show World.ownsRow _ _ _ _ _ _ _
   have : ((List.range (j + 1)).map vA ++ [s]).length = j + 1 + 1 := by simp
   exact ho
 · by_cases q : i = j + 1
   · rw [if_pos q, q]; exact out_grown (hs (by omega)) hg (kind_apart h.oA (hs (by omega)))
   · rw [if_neg q]; exact out_grown (h.iA i (by omega) h2) hg (kind_apart h.oA (h.iA i (by omega) h2))
end Go.Proofs.YtoihkljlekknkaaGreat
