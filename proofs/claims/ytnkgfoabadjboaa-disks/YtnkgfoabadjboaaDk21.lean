/-
  The document's disk in memory, and what plain state it stands for; Limit and the search for a file. Conditions: fewer than 2^41 entries.
-/
import Derived.Test.YtnkgfoabadjboaaDk20
namespace Go.Proofs.Ytnkgfoabadjboaa
open Go.RowKit
set_option linter.unusedVariables false
set_option linter.unusedSimpArgs false
def encD (c : Chg) : List Value := [.string c.1, .string c.2.1, .int .i64 (fileI c.2.2)]
def flatD (l : List Chg) : List Value := l.flatMap encD
theorem flatD_cons (a : Chg) (t : List Chg) : flatD (a :: t) = .string a.1 :: .string a.2.1 :: .int .i64 (fileI a.2.2) :: flatD t := rfl
theorem flatD_app (l m : List Chg) : flatD (l ++ m) = flatD l ++ flatD m := by simp [flatD]
theorem flatD_snoc (l : List Chg) (c : Chg) : flatD l ++ [.string c.1, .string c.2.1, .int .i64 (fileI c.2.2)] = flatD (l ++ [c]) := by rw [flatD_app]; rfl
theorem flatD_len (l : List Chg) : (flatD l).length = l.length * 3 := by
  induction l with
  | nil => rfl
  | cons a t ih => rw [flatD_cons]; simp [ih]; omega
theorem flatD_at (l : List Chg) (i : Nat) (hi : i < l.length) : (flatD l)[i * 3]? = some (.string (l.getD i dC).1) ∧ (flatD l)[i * 3 + 1]? = some (.string (l.getD i dC).2.1) ∧ (flatD l)[i * 3 + 2]? = some (.int .i64 (fileI (l.getD i dC).2.2)) := by
  induction l generalizing i with
  | nil => simp at hi
  | cons a t ih =>
    cases i with
    | zero => exact ⟨rfl, rfl, rfl⟩
    | succ i =>
      have := ih i (by simpa using hi)
      rw [flatD_cons, show (i + 1) * 3 = i * 3 + 1 + 1 + 1 by omega]
      simp only [List.getElem?_cons_succ, show i * 3 + 1 + 1 + 1 + 1 = (i * 3 + 1) + 1 + 1 + 1 by omega, show i * 3 + 1 + 1 + 1 + 2 = (i * 3 + 2) + 1 + 1 + 1 by omega]
      exact this
def OutD (w : World) (v : Value) (l : List Chg) : Prop := w.ownsRow 0 131 3 v l.length (flatD l)
structure RRep (w : World) (O : Nat → Prop) (D : Nat) (vN vK vn vs vc : Value) (S : St) : Prop where
  blk : w.heap[D]? = some (.cells #[vN, vK, vn, vs, vc, .int .i64 S.left, .int .i64 S.room] 97 (0, 0))
  now : OutS w 0 vN S.now
  kept : OutS w 0 vK S.kept
  names : OutR w 0 vn S.names
  safe : OutR w 0 vs S.safe
  chg : OutD w vc S.chg
  nk : ∀ a, vN.ownBlock = some a → vK.ownBlock = some a → False
  oD : O D
  oN : Mine O vN
  oK : Mine O vK
  on : Mine O vn
  os : Mine O vs
  oc : Mine O vc
  lt : ∀ k, O k → k < w.heap.size
theorem RRep.same {w w' : World} {O : Nat → Prop} {D : Nat} {vN vK vn vs vc : Value} {S : St} (h : RRep w O D vN vK vn vs vc S) (hs : w.heap.size ≤ w'.heap.size) (hb : ∀ k, O k → w'.heap[k]? = w.heap[k]?) : RRep w' O D vN vK vn vs vc S where
  blk := by rw [hb D h.oD]; exact h.blk
  now := owns_same h.now fun g hg => hb g (h.oN g hg)
  kept := owns_same h.kept fun g hg => hb g (h.oK g hg)
  names := owns_same h.names fun g hg => hb g (h.on g hg)
  safe := owns_same h.safe fun g hg => hb g (h.os g hg)
  chg := owns_same h.chg fun g hg => hb g (h.oc g hg)
  nk := h.nk
  oD := h.oD
  oN := h.oN
  oK := h.oK
  on := h.on
  os := h.os
  oc := h.oc
  lt k hk := Nat.lt_of_lt_of_le (h.lt k hk) hs
theorem RRep.below {w w' : World} {O : Nat → Prop} {D : Nat} {vN vK vn vs vc : Value} {S : St} (h : RRep w O D vN vK vn vs vc S) (hb : Below w.heap.size w w') : RRep w' O D vN vK vn vs vc S :=
  h.same hb.size fun k hk => hb.block k (h.lt k hk)
theorem RRep.apart {w w' : World} {O P P' : Nat → Prop} {D : Nat} {vN vK vn vs vc : Value} {S : St} (h : RRep w O D vN vK vn vs vc S) (hf : Fr P P' w w') (hd : ∀ k, O k → ¬ P k) : RRep w' O D vN vK vn vs vc S :=
  h.same hf.size fun k hk => hf.block k (h.lt k hk) (hd k hk)
theorem RRep.drew {w : World} {O : Nat → Prop} {D : Nat} {vN vK vn vs vc : Value} {S : St} (h : RRep w O D vN vK vn vs vc S) : RRep w.drew O D vN vK vn vs vc S := h.same (Nat.le_refl _) fun _ _ => rfl
/-- the disk's own block is written -/
theorem RRep.put {w w' : World} {O : Nat → Prop} {D : Nat} {vN vK vn vs vc vN' vK' vn' vs' vc' : Value} {S T : St} (h : RRep w O D vN vK vn vs vc S) (hs : w'.heap.size = w.heap.size)
    (hB : w'.heap[D]? = some (.cells #[vN', vK', vn', vs', vc', .int .i64 T.left, .int .i64 T.room] 97 (0, 0))) (ho : ∀ k, k ≠ D → w'.heap[k]? = w.heap[k]?)
    (h1 : OutS w 0 vN' T.now ∧ Mine O vN') (h2 : OutS w 0 vK' T.kept ∧ Mine O vK') (h3 : OutR w 0 vn' T.names ∧ Mine O vn') (h4 : OutR w 0 vs' T.safe ∧ Mine O vs') (h5 : OutD w vc' T.chg ∧ Mine O vc') (h6 : ∀ a, vN'.ownBlock = some a → vK'.ownBlock = some a → False) : RRep w' O D vN' vK' vn' vs' vc' T where
  blk := hB
  now := owns_same h1.1 fun g hg => ho g (fun e => row_ne h.blk h1.1 (by decide) g hg e.symm)
  kept := owns_same h2.1 fun g hg => ho g (fun e => row_ne h.blk h2.1 (by decide) g hg e.symm)
  names := owns_same h3.1 fun g hg => ho g (fun e => row_ne h.blk h3.1 (by decide) g hg e.symm)
  safe := owns_same h4.1 fun g hg => ho g (fun e => row_ne h.blk h4.1 (by decide) g hg e.symm)
  chg := owns_same h5.1 fun g hg => ho g (fun e => row_ne h.blk h5.1 (by decide) g hg e.symm)
  nk := h6
  oD := h.oD
  oN := h1.2
  oK := h2.2
  on := h3.2
  os := h4.2
  oc := h5.2
  lt k hk := by rw [hs]; exact h.lt k hk
theorem RRep.left {w : World} {O : Nat → Prop} {D : Nat} {vN vK vn vs vc : Value} {S : St} (h : RRep w O D vN vK vn vs vc S) (l : Int) : RRep (w.setCell ⟨D, 5, none⟩ (.int .i64 l)) O D vN vK vn vs vc { S with left := l } :=
  h.put (by simp) (by rw [heap_set w D 5 _ _ _ _ h.blk]; rfl) (fun k hk => Below.heap_setCell w ⟨D, 5, none⟩ _ k hk) ⟨h.now, h.oN⟩ ⟨h.kept, h.oK⟩ ⟨h.names, h.on⟩ ⟨h.safe, h.os⟩ ⟨h.chg, h.oc⟩ h.nk
theorem RRep.room {w : World} {O : Nat → Prop} {D : Nat} {vN vK vn vs vc : Value} {S : St} (h : RRep w O D vN vK vn vs vc S) (l : Int) : RRep (w.setCell ⟨D, 6, none⟩ (.int .i64 l)) O D vN vK vn vs vc { S with room := l } :=
  h.put (by simp) (by rw [heap_set w D 6 _ _ _ _ h.blk]; rfl) (fun k hk => Below.heap_setCell w ⟨D, 6, none⟩ _ k hk) ⟨h.now, h.oN⟩ ⟨h.kept, h.oK⟩ ⟨h.names, h.on⟩ ⟨h.safe, h.os⟩ ⟨h.chg, h.oc⟩ h.nk
theorem rmay_none (O : Nat → Prop) (D : Nat) (vN vK vn vs vc : Value) (S : St) (w : World) (h : RRep w O D vN vK vn vs vc S) (h0 : S.left = 0) :
    Calls Try.prog 124 #[.pointer (some ⟨D, 0, none⟩)] w fun e w' => e = .returned (.bool false) ∧ w' = w :=
  may_none D w (by have := cell_in h.blk 5 (.int .i64 S.left) rfl; rw [h0] at this; exact this)
theorem rmay_some (O : Nat → Prop) (D : Nat) (vN vK vn vs vc : Value) (S : St) (m : Nat) (w : World) (h : RRep w O D vN vK vn vs vc S) (k : S.Ok m) (h0 : ¬ S.left = 0) :
    Calls Try.prog 124 #[.pointer (some ⟨D, 0, none⟩)] w fun e w' => e = .returned (.bool true) ∧ RRep w' O D vN vK vn vs vc (opS S) ∧ Fr O O w w' := by
  refine (may_some D S.left w (by simpa using h0) k.l0.1 k.l0.2 (cell_in h.blk 5 _ rfl) (unfrozen_in h.blk 5)).mono ?_
  rintro e w' ⟨rfl, rfl⟩
  refine ⟨rfl, ?_, ?_⟩
  · unfold opS less1
    split
    · exact h.left _
    · exact h
  · split
    · exact fr_at h.oD _ _
    · exact Fr.refl _ _
theorem rlimit_rep (O : Nat → Prop) (D : Nat) (vN vK vn vs vc : Value) (S : St) (a b : Int) (w : World) (h : RRep w O D vN vK vn vs vc S) :
    Calls Try.prog 101 #[.pointer (some ⟨D, 0, none⟩), .int .i64 a, .int .i64 b] w fun e w' => e = .returned (.tuple #[]) ∧ RRep w' O D vN vK vn vs vc (limS S a b) ∧ Fr O O w w' := by
  refine (rlimit_any D a b (.int .i64 S.left) (.int .i64 S.room) w (cell_in h.blk 5 _ rfl) (cell_in h.blk 6 _ rfl) (unfrozen_in h.blk 5) (unfrozen_in h.blk 6)).mono ?_
  rintro e w' ⟨rfl, rfl⟩
  exact ⟨rfl, (h.left (bnd a)).room (bnd b), (fr_at h.oD _ _).trans (fr_at h.oD _ _)⟩
/-! the search for a file -/
def toR (e : Ent) : ByteArray × Int := (e.1, (e.2 : Int))
theorem rents_of {w : World} {base : Nat} {v : Value} {l : List Ent} (h : OutR w base v l) (hl : l.length < 4611686018427387904) : REnts w v (l.map toR) := by
  rcases Go.Joins.ownsRow_forms h with ⟨rfl, h0⟩ | ⟨g, cap, rfl⟩
  · exact Or.inl ⟨rfl, by rw [List.eq_nil_of_length_eq_zero h0]; rfl⟩
  · refine Or.inr ⟨g, cap, by rw [List.length_map], by rw [List.length_map]; exact hl, (World.ownsRow.lt h g rfl).2, fun i hi => ?_⟩
    have hi' : i < l.length := by simpa using hi
    obtain ⟨a, b⟩ := flatR_at l i hi'
    have e : (l.map toR).getD i rE = ((l.getD i dN).1, ((l.getD i dN).2 : Int)) := by
      rw [List.getD_eq_getElem?_getD, List.getD_eq_getElem?_getD, List.getElem?_map, List.getElem?_eq_getElem hi']; rfl
    rw [e]
    exact ⟨(World.ownsRow.cellAt h (i * 2) (by omega)).trans a, (World.ownsRow.cellAt h (i * 2 + 1) (by omega)).trans b⟩
theorem findR_map (L : List Ent) (s : ByteArray) : findR (L.map toR) s = fileI (findN L s) := by
  induction L with
  | nil => rfl
  | cons a t ih =>
    unfold findR findN at *
    by_cases hq : sm a.1 s = true
    · have h1 : ((toR a).1.toList == s.toList) = true := hq
      rw [List.map_cons, List.find?_cons_of_pos (by exact h1), List.find?_cons_of_pos (by exact hq)]; rfl
    · have h1 : ¬ ((toR a).1.toList == s.toList) = true := hq
      rw [List.map_cons, List.find?_cons_of_neg (by exact h1), List.find?_cons_of_neg (by exact hq)]; exact ih
theorem rfind_any (v : Value) (L : List Ent) (s : ByteArray) (w : World) (base : Nat) (h : OutR w base v L) (hl : L.length < 4611686018427387904) :
    Calls Try.prog 126 #[v, .string s] w fun e w' => e = .returned (.int .i64 (fileI (findN L s))) ∧ w' = w := by
  rw [← findR_map]
  exact fileOf_any v _ s w (rents_of h hl)
end Go.Proofs.Ytnkgfoabadjboaa
