/-
  The texts of the document's disk: where they lie, and one is written. Conditions: the disk stands for a plain state.
-/
import Derived.Test.YtnkgfoabadjboaaDk25
namespace Go.Proofs.Ytnkgfoabadjboaa
open Go.RowKit
set_option linter.unusedVariables false
set_option linter.unusedSimpArgs false
/-- a text of Now is written -/
theorem RRep.setNow {w : World} {O : Nat → Prop} {D : Nat} {vK vn vs vc : Value} {S : St} {g n cap : Nat} (h : RRep w O D (.slice (some ⟨g, 0, none⟩) n cap) vK vn vs vc S) (i : Nat) (t : ByteArray) :
    RRep (w.setCell ⟨g, i, none⟩ (.string t)) O D (.slice (some ⟨g, 0, none⟩) n cap) vK vn vs vc { S with now := S.now.set i t } := by
  have hn : n = S.now.length := by
    rcases Go.Joins.ownsRow_forms h.now with ⟨e, _⟩ | ⟨_, _, e⟩
    · simp at e
    · simp at e; exact e.2.1
  subst hn
  have ho : ∀ q, q ≠ g → (w.setCell ⟨g, i, none⟩ (.string t)).heap[q]? = w.heap[q]? := fun q hq => Below.heap_setCell w ⟨g, i, none⟩ _ q hq
  have hD : D ≠ g := fun e => row_ne h.blk h.now (by decide) g rfl e
  have hs := (World.ownsRow.stored h.now i (.string t)).1
  exact {
    blk := by rw [ho D hD]; exact h.blk
    kept := owns_same h.kept fun q hq => ho q (fun e => h.nk q (by rw [e]; rfl) hq)
    now := by
      show World.ownsRow _ _ _ _ _ _ _
      rw [List.length_set]
      have e : strs9 (S.now.set i t) = (strs9 S.now).set i (.string t) := by unfold strs9; rw [List.map_set]
      rw [e]; exact hs
    names := owns_same h.names fun q hq => ho q (rows_ne h.names h.now (by decide) q g hq rfl)
    safe := owns_same h.safe fun q hq => ho q (rows_ne h.safe h.now (by decide) q g hq rfl)
    chg := owns_same h.chg fun q hq => ho q (rows_ne h.chg h.now (by decide) q g hq rfl)
    nk := h.nk
    oD := h.oD
    oN := h.oN
    oK := h.oK
    on := h.on
    os := h.os
    oc := h.oc
    lt := fun q hq => by simpa using h.lt q hq }
/-- where the texts of file i lie -/
theorem RRep.slots {w : World} {O : Nat → Prop} {D : Nat} {vn vs vc : Value} {S : St} {g gk L cap capk i : Nat} (h : RRep w O D (.slice (some ⟨g, 0, none⟩) L cap) (.slice (some ⟨gk, 0, none⟩) L capk) vn vs vc S) (hi : i < S.now.length) (hk : i < S.kept.length) :
    (w.cell? ⟨D, 0, none⟩ = some (.slice (some ⟨g, 0, none⟩) L cap) ∧ w.cell? ⟨D, 1, none⟩ = some (.slice (some ⟨gk, 0, none⟩) L capk)) ∧ (w.cell? ⟨g, i, none⟩ = some (.string (nowOf S i)) ∧ w.frozen? ⟨g, i, none⟩ = false) ∧ w.cell? ⟨gk, i, none⟩ = some (.string (keptOf S i)) ∧ w.frozen? ⟨gk, i, none⟩ = false := by
  refine ⟨⟨cell_in h.blk 0 _ rfl, cell_in h.blk 1 _ rfl⟩, ?_, ?_⟩
  · obtain ⟨g', cap', e, a, b⟩ := outS_slot h.now hi
    simp only [Value.slice.injEq, Option.some.injEq, Addr.mk.injEq, and_true, true_and] at e
    rw [e.1]; exact ⟨a, b⟩
  · obtain ⟨g', cap', e, a, b⟩ := outS_slot h.kept hk
    simp only [Value.slice.injEq, Option.some.injEq, Addr.mk.injEq, and_true, true_and] at e
    rw [e.1]; exact ⟨a, b⟩
end Go.Proofs.Ytnkgfoabadjboaa
