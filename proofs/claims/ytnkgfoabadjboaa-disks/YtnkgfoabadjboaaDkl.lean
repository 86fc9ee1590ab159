/-
  One list more among those that came out: what memory holds then. Conditions: those that each law names.
-/
import Derived.Test.YtnkgfoabadjboaaDk33
import Derived.Test.YtnkgfoabadjboaaDka
namespace Go.Proofs.Ytnkgfoabadjboaa
open Go.RowKit
set_option linter.unusedVariables false
set_option linter.unusedSimpArgs false
section
variable {W w6 w7 w8 : World} {P q n g6 cap6 g7 cap7 g8 cap8 : Nat} {OL : Nat → Prop} {vl vg pB pD lv : Value} {ls gs : List Value} {o7 o8 : Obj} {mk : ByteArray}
theorem list7 (L0 : LRep W OL vl vg n ls gs) (blk : W.heap[P]? = some (.cells #[pB, pD, vl, vg] 45 (0, 0))) (pl : ¬ OL P) (b6 : Below W.heap.size W w6) (gr7 : (w6.alloc o7).grownBy w7 vl.ownBlock) :
    w7.heap[P]? = some (.cells #[pB, pD, vl, vg] 45 (0, 0)) ∧ w7.ownsRow 0 93 1 vg n gs := by
  have ps : P < W.heap.size := (Array.getElem?_eq_some_iff.1 blk).1
  have s6 := b6.size
  have old : ∀ z, z < W.heap.size → some z ≠ vl.ownBlock → w7.heap[z]? = W.heap[z]? := fun z hz hn => by
    rw [gr7.block z (by simp; omega) hn, Below.heap_alloc w6 o7 z (by omega)]; exact b6.block z hz
  exact ⟨by rw [old P ps fun e => pl (L0.ol P e.symm)]; exact blk, owns_same L0.rg fun z hz => old z (L0.lt z (L0.og z hz)) fun e => L0.ne z e.symm hz⟩
theorem list7' (L0 : LRep W OL vl vg n ls gs) (blk : W.heap[P]? = some (.cells #[pB, pD, vl, vg] 45 (0, 0))) (pl : ¬ OL P) (b6 : Below W.heap.size W w6) (gr7 : (w6.alloc o7).grownBy w7 vl.ownBlock) (v7 : Value) :
    (w7.setCell ⟨P, 2, none⟩ v7).heap[P]? = some (.cells #[pB, pD, v7, vg] 45 (0, 0)) ∧ (w7.setCell ⟨P, 2, none⟩ v7).ownsRow 0 93 1 vg n gs := by
  obtain ⟨a, b⟩ := list7 L0 blk pl b6 gr7
  exact ⟨by rw [heap_set w7 P 2 v7 _ _ _ a]; rfl, owns_same b fun z hz => Below.heap_setCell w7 ⟨P, 2, none⟩ v7 z fun e => pl (by have e' : z = P := e; rw [← e']; exact L0.og z hz)⟩
theorem list8 (L0 : LRep W OL vl vg n ls gs) (blk : W.heap[P]? = some (.cells #[pB, pD, vl, vg] 45 (0, 0))) (pl : ¬ OL P) (b6 : Below W.heap.size W w6) (gr7 : (w6.alloc o7).grownBy w7 vl.ownBlock) (v7 : Value)
    (gr8 : ((w7.setCell ⟨P, 2, none⟩ v7).alloc o8).grownBy w8 vg.ownBlock) : w8.heap[P]? = some (.cells #[pB, pD, v7, vg] 45 (0, 0)) := by
  have ps : P < W.heap.size := (Array.getElem?_eq_some_iff.1 blk).1
  have s6 := b6.size
  have s7 := gr7.size
  simp at s7
  rw [gr8.block P (by simp; omega) (fun e => pl (L0.og P e.symm)), Below.heap_alloc _ o8 P (by simp; omega)]
  exact (list7' L0 blk pl b6 gr7 v7).1
theorem listed_end (L0 : LRep W OL vl vg n ls gs) (blk : W.heap[P]? = some (.cells #[pB, pD, vl, vg] 45 (0, 0))) (pl : ¬ OL P) (b6 : Below W.heap.size W w6) (hq : q < 2199023255552) (hmk : mk = markB n)
    (hl6 : w6.ownsRow W.heap.size 9 1 lv q (List.replicate q (.string mk))) (hg6 : w6.ownsRow W.heap.size 9 1 (.slice (some ⟨g6, 0, none⟩) (q + 1) cap6) (q + 1) (List.replicate (q + 1) (.string mk)))
    (h7 : w7.ownsRow 0 93 1 (.slice (some ⟨g7, 0, none⟩) (n + 1) cap7) (n + 1) (ls ++ [lv])) (gr7 : (w6.alloc o7).grownBy w7 vl.ownBlock) (at7 : vl.ownBlock = some g7 ∨ g7 = (w6.alloc o7).heap.size)
    (h8 : w8.ownsRow 0 93 1 (.slice (some ⟨g8, 0, none⟩) (n + 1) cap8) (n + 1) (gs ++ [.slice (some ⟨g6, 0, none⟩) (q + 1) cap6])) (gr8 : ((w7.setCell ⟨P, 2, none⟩ (.slice (some ⟨g7, 0, none⟩) (n + 1) cap7)).alloc o8).grownBy w8 vg.ownBlock) (at8 : vg.ownBlock = some g8 ∨ g8 = ((w7.setCell ⟨P, 2, none⟩ (.slice (some ⟨g7, 0, none⟩) (n + 1) cap7)).alloc o8).heap.size) :
    ∃ (OL' : Nat → Prop) (vl' vg' : Value) (ls' gs' : List Value), LRep (w8.setCell ⟨P, 3, none⟩ (.slice (some ⟨g8, 0, none⟩) (n + 1) cap8)) OL' vl' vg' (n + 1) ls' gs' ∧ (w8.setCell ⟨P, 3, none⟩ (.slice (some ⟨g8, 0, none⟩) (n + 1) cap8)).heap[P]? = some (.cells #[pB, pD, vl', vg'] 45 (0, 0)) ∧ Fr (fun k => k = P ∨ OL k) (fun k => k = P ∨ OL' k) W (w8.setCell ⟨P, 3, none⟩ (.slice (some ⟨g8, 0, none⟩) (n + 1) cap8)) ∧ (∀ k, OL' k → OL k ∨ W.heap.size ≤ k) := by
  have ps : P < W.heap.size := (Array.getElem?_eq_some_iff.1 blk).1
  have s6 := b6.size
  have s7 := gr7.size
  have s8 := gr8.size
  simp at s7 s8
  have p8 := list8 L0 blk pl b6 gr7 _ gr8
  obtain ⟨w', hw'⟩ : ∃ w', w8.setCell ⟨P, 3, none⟩ (.slice (some ⟨g8, 0, none⟩) (n + 1) cap8) = w' := ⟨_, rfl⟩
  have z8 : ∀ z, z ≠ P → w'.heap[z]? = w8.heap[z]? := fun z hz => by rw [← hw']; exact Below.heap_setCell w8 ⟨P, 3, none⟩ _ z hz
  have s' : w'.heap.size = w8.heap.size := by rw [← hw']; simp
  have pw : w'.heap[P]? = some (.cells #[pB, pD, .slice (some ⟨g7, 0, none⟩) (n + 1) cap7, .slice (some ⟨g8, 0, none⟩) (n + 1) cap8] 45 (0, 0)) := by rw [← hw', heap_set w8 P 3 _ _ _ _ p8]; rfl
  have o' : w'.os = W.os ∧ w'.tape = W.tape ∧ w'.output = W.output := by
    rw [← hw']
    exact ⟨(gr8.os.trans gr7.os).trans b6.os, (gr8.tape.trans gr7.tape).trans b6.tape, (gr8.output.trans gr7.output).trans b6.output⟩
  rw [hw']
  -- what lay in w7 and is no row of grown, nor P
  have z7 : ∀ z, z < w7.heap.size → z ≠ P → some z ≠ vg.ownBlock → w'.heap[z]? = w7.heap[z]? := fun z hz hP hn => by
    rw [z8 z hP, gr8.block z (by simp; omega) hn, Below.heap_alloc _ o8 z (by simp; omega)]
    exact Below.heap_setCell w7 ⟨P, 2, none⟩ _ z hP
  have z6 : ∀ z, z < w6.heap.size → z ≠ P → some z ≠ vl.ownBlock → some z ≠ vg.ownBlock → w'.heap[z]? = w6.heap[z]? := fun z hz hP hl hn => by
    rw [z7 z (by omega) hP hn, gr7.block z (by simp; omega) hl]
    exact Below.heap_alloc w6 o7 z hz
  have g7ge : vl.ownBlock = some g7 ∨ W.heap.size < g7 := at7.imp id fun e => by rw [e]; simp; omega
  have g8ge : vg.ownBlock = some g8 ∨ W.heap.size < g8 := at8.imp id fun e => by rw [e]; simp; omega
  have g7s := (World.ownsRow.lt h7 g7 rfl).2
  have g8s := (World.ownsRow.lt h8 g8 rfl).2
  have lvge : ∀ b, lv.ownBlock = some b → W.heap.size ≤ b ∧ b < w6.heap.size := World.ownsRow.lt hl6
  have g6ge := World.ownsRow.lt hg6 g6 rfl
  have vls : ∀ b, vl.ownBlock = some b → b < W.heap.size := fun b hb => L0.lt b (L0.ol b hb)
  have vgs : ∀ b, vg.ownBlock = some b → b < W.heap.size := fun b hb => L0.lt b (L0.og b hb)
  have new6 : ∀ b, W.heap.size ≤ b → b < w6.heap.size → w'.heap[b]? = w6.heap[b]? := fun b h1 h2 =>
    z6 b h2 (by omega) (fun e => by have := vls b e.symm; omega) (fun e => by have := vgs b e.symm; omega)
  have g7P : g7 ≠ P := by
    rcases g7ge with e | e
    · intro q; exact pl (by rw [← q]; exact L0.ol g7 e)
    · omega
  have g8P : g8 ≠ P := by
    rcases g8ge with e | e
    · intro q; exact pl (by rw [← q]; exact L0.og g8 e)
    · omega
  refine ⟨fun k => OL k ∨ k = g7 ∨ k = g8 ∨ lv.ownBlock = some k ∨ k = g6, .slice (some ⟨g7, 0, none⟩) (n + 1) cap7, .slice (some ⟨g8, 0, none⟩) (n + 1) cap8, ls ++ [lv], gs ++ [.slice (some ⟨g6, 0, none⟩) (q + 1) cap6], ?_, pw, ?_, ?_⟩
  · exact {
      rl := owns_same h7 fun z hz => by
        have e : g7 = z := by simpa [Value.ownBlock] using hz
        subst e
        refine z7 g7 g7s g7P fun e => ?_
        rcases g7ge with q | q
        · exact L0.ne g7 q e.symm
        · have := vgs g7 e.symm; omega
      rg := owns_same h8 fun z hz => by
        have e : g8 = z := by simpa [Value.ownBlock] using hz
        subst e
        exact z8 g8 g8P
      one := fun i hi => by
        by_cases hin : i < n
        · obtain ⟨x, y, e1, e2, nl, hn, rx, ry, ox, oy⟩ := L0.one i hin
          have keepO : ∀ {v : Value} {m : Nat} {xs : List Value}, W.ownsRow 0 9 1 v m xs → (∀ b, v.ownBlock = some b → OL b) → w'.ownsRow 0 9 1 v m xs := fun {v m xs} r o => owns_same r fun z hz => by
            have hz' := L0.lt z (o z hz)
            rw [z6 z (by omega) (fun e => pl (by rw [← e]; exact o z hz)) (fun e => rows_ne r L0.rl (by decide) z z hz e.symm rfl) (fun e => rows_ne r L0.rg (by decide) z z hz e.symm rfl)]
            exact b6.block z hz'
          have hls : ls.length = n := by have := L0.rl.1; omega
          have hgs : gs.length = n := by have := L0.rg.1; omega
          exact ⟨x, y, by rw [List.getElem?_append_left (by omega)]; exact e1, by rw [List.getElem?_append_left (by omega)]; exact e2, nl, hn, keepO rx ox, keepO ry oy, fun b hb => Or.inl (ox b hb), fun b hb => Or.inl (oy b hb)⟩
        · have hie : i = n := by omega
          subst hie
          have hls : ls.length = i := by have := L0.rl.1; omega
          have hgs : gs.length = i := by have := L0.rg.1; omega
          rw [hmk] at hl6 hg6
          refine ⟨lv, .slice (some ⟨g6, 0, none⟩) (q + 1) cap6, by rw [List.getElem?_append_right (by omega), hls]; simp, by rw [List.getElem?_append_right (by omega), hgs]; simp, q, hq, ?_, ?_, fun b hb => Or.inr (Or.inr (Or.inr (Or.inl hb))), fun b hb => ?_⟩
          · exact Go.Joins.ownsRow_le (owns_same hl6 fun z hz => new6 z (lvge z hz).1 (lvge z hz).2) (Nat.zero_le _)
          · refine Go.Joins.ownsRow_le (owns_same hg6 fun z hz => ?_) (Nat.zero_le _)
            have e : g6 = z := by simpa [Value.ownBlock] using hz
            subst e
            exact new6 g6 g6ge.1 g6ge.2
          · have e : g6 = b := by simpa [Value.ownBlock] using hb
            exact Or.inr (Or.inr (Or.inr (Or.inr e.symm)))
      ol := fun b hb => by
        have e : g7 = b := by simpa [Value.ownBlock] using hb
        exact Or.inr (Or.inl e.symm)
      og := fun b hb => by
        have e : g8 = b := by simpa [Value.ownBlock] using hb
        exact Or.inr (Or.inr (Or.inl e.symm))
      ne := fun a ha hb => by
        have e1 : g7 = a := by simpa [Value.ownBlock] using ha
        have e2 : g8 = a := by simpa [Value.ownBlock] using hb
        have e3 : g7 = g8 := e1.trans e2.symm
        rcases g8ge with e | e
        · rcases g7ge with d | d
          · exact L0.ne g7 d (by rw [e3]; exact e)
          · have := vgs g8 e; omega
        · rcases at8 with d | d
          · have := vgs g8 d; omega
          · simp at d; omega
      lt := fun b hb => by
        rw [s']
        rcases hb with hb | hb | hb | hb | hb
        · have := L0.lt b hb; omega
        · omega
        · omega
        · have := (lvge b hb).2; omega
        · omega }
  · refine ⟨o'.1, o'.2.1, o'.2.2, by omega, ?_, ?_⟩
    · intro z hz hO
      rw [z6 z (by omega) (fun e => hO (Or.inl e)) (fun e => hO (Or.inr (L0.ol z e.symm))) (fun e => hO (Or.inr (L0.og z e.symm)))]
      exact b6.block z hz
    · intro z hz
      rcases hz with hz | hz | hz | hz | hz | hz
      · exact Or.inl (Or.inl hz)
      · exact Or.inl (Or.inr hz)
      · rcases g7ge with e | e
        · exact Or.inl (Or.inr (by rw [hz]; exact L0.ol g7 e))
        · exact Or.inr (by omega)
      · rcases g8ge with e | e
        · exact Or.inl (Or.inr (by rw [hz]; exact L0.og g8 e))
        · exact Or.inr (by omega)
      · exact Or.inr (lvge z hz).1
      · exact Or.inr (by rw [hz]; exact g6ge.1)
  · intro z hz
    rcases hz with hz | hz | hz | hz | hz
    · exact Or.inl hz
    · rcases g7ge with e | e
      · exact Or.inl (by rw [hz]; exact L0.ol g7 e)
      · exact Or.inr (by omega)
    · rcases g8ge with e | e
      · exact Or.inl (by rw [hz]; exact L0.og g8 e)
      · exact Or.inr (by omega)
    · exact Or.inr (lvge z hz).1
    · exact Or.inr (by rw [hz]; exact g6ge.1)
end
end Go.Proofs.Ytnkgfoabadjboaa
