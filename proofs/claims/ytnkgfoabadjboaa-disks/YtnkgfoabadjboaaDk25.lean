/-
  List, by the document. Conditions: the disk stands for a plain state; fewer than 2^41 entries.
-/
import Derived.Test.YtnkgfoabadjboaaDk24
namespace Go.Proofs.Ytnkgfoabadjboaa
open Go.RowKit
set_option linter.unusedVariables false
set_option linter.unusedSimpArgs false
set_option maxHeartbeats 4000000 in
set_option maxRecDepth 100000 in
theorem rlist_any (O : Nat → Prop) (D : Nat) (vN vK vn vs vc : Value) (S : St) (m : Nat) (w : World) (h : RRep w O D vN vK vn vs vc S) (k : S.Ok m) (hm : m < 2199023255552) :
    Calls Try.prog 129 #[.pointer (some ⟨D, 0, none⟩)] w fun e w' => ∃ v', e = .returned (.tuple #[v', .int .i64 (nmE S)]) ∧ OutS w' w.heap.size v' (nmL S) ∧ Below w.heap.size w w' := by
  have c0 : w.cell? ⟨D, 2, none⟩ = some vn := cell_in h.blk 2 _ rfl
  have c3 : w.cell? ⟨D, 5, none⟩ = some (.int .i64 S.left) := cell_in h.blk 5 _ rfl
  have BL : Hid (D < w.heap.size) := h.lt D h.oD
  obtain ⟨l, hl⟩ : ∃ l, l = S.left := ⟨_, rfl⟩
  rw [← hl] at c3
  cases h0 : (l == 0)
  · have h0' : ¬ S.left = 0 := by rw [← hl]; simpa using h0
    have R : Hid (nmE S = 0 ∧ nmL S = S.names.map (·.1)) := by show _ ∧ _; unfold nmE nmL; rw [if_neg h0', if_neg h0']; exact ⟨rfl, rfl⟩
    obtain ⟨i0, hi, hz0, hz1, hz2⟩ := info_parts Try.infoS
    have INF : Hid _ := And.intro hi (And.intro hz0 (And.intro hz1 hz2))
    clear hi hz0 hz1 hz2
    have RN := h.names
    have LN : Hid (S.names.length ≤ m) := k.ln
    rcases Go.Joins.ownsRow_forms h.names with ⟨rfl, hnil⟩ | ⟨g, cap, rfl⟩
    · have HN : Hid (S.names.map (·.1) = []) := by show _ = _; rw [List.eq_nil_of_length_eq_zero hnil]; rfl
      clear h k h0' hl hnil LN RN
      go_enter Try.func129, Try.ntmps129
      go_wp2
      refine wp_loop_rounds 1 ?_
      rw [rounds_succ]
      go_wp2
      go_ret2
      exact ⟨_, ret_vi rfl R.out.1.symm, by rw [R.out.2, HN.out]; exact World.ownsRow_nil _ _ _ _, Below.refl _ _⟩
    · obtain ⟨n, hnn⟩ : ∃ n, n = S.names.length := ⟨_, rfl⟩
      have HN : Hid _ := hnn
      have hnm : n < 2199023255552 := by have := LN.out; omega
      have hg : Hid (g < w.heap.size) := (World.ownsRow.lt RN g rfl).2
      have HC : Hid (∀ i, i < S.names.length → w.cell? ⟨g, i * 2, none⟩ = some (.string (S.names.getD i dN).1)) := fun i hi => (World.ownsRow.cellAt RN (i * 2) (by omega)).trans (flatR_at S.names i hi).1
      rw [← hnn] at c0
      have HC0 : Hid (w.cell? ⟨D, 2, none⟩ = some (.slice (some ⟨g, 0, none⟩) n cap)) := c0
      clear h k h0' hl hnn RN
      go_enter Try.func129, Try.ntmps129
      go_wp2
      go_loopw [4, 5] (fun ov iv wr => ∃ q : Nat, q ≤ n ∧ iv = .int .i64 q ∧ Hid (OutS wr w.heap.size ov (nms S q)) ∧ Hid (Below w.heap.size w wr)) (fun _ iv _ => n - (intOf iv).toNat)
      case atStart => exact ⟨0, by omega, rfl, by show OutS _ _ _ _; rw [nms_zero]; exact World.ownsRow_nil _ _ _ _, Below.refl _ _⟩
      case round =>
        obtain ⟨q, hq, rfl, OW, BW⟩ := hrel
        have d0 : wr.cell? ⟨D, 2, none⟩ = some (.slice (some ⟨g, 0, none⟩) n cap) := (BW.out.cell (p := ⟨D, 2, none⟩) BL.out).trans HC0.out
        by_cases hlt : q < n
        · have hq2 : q < S.names.length := by rw [← HN.out]; exact hlt
          have a1 := HC.out q hq2
          obtain ⟨x, hx⟩ : ∃ x, x = (S.names[q]).1 := ⟨_, rfl⟩
          have e1 : (S.names.getD q dN).1 = x := by
            rw [hx, List.getD_eq_getElem?_getD, List.getElem?_eq_getElem hq2]; rfl
          rw [e1] at a1
          have TK : Hid (nms S (q + 1) = nms S q ++ [x]) := by show _ = _; rw [hx]; exact nms_succ S q hq2
          have LL : Hid ((nms S q).length = q) := nms_len S q (by omega)
          have d1 : wr.cell? ⟨g, q * 2, none⟩ = some (.string x) := (BW.out.cell (p := ⟨g, q * 2, none⟩) hg.out).trans a1
          have c6 : Hid (w.heap.size ≤ (wr.alloc (.cells #[.string x] 9)).heap.size) := by show _ ≤ _; have := BW.out.size; simp; omega
          have cc3 : Hid ((nms S q).length + 1 ≤ maxLen) := by show _ ≤ _; rw [LL.out]; unfold maxLen; omega
          have cc4 : Hid (((nms S q).length + 1) * 16 ≤ 140737488355328) := by show _ ≤ _; rw [LL.out]; omega
          have BB : Hid (Below w.heap.size w (wr.alloc (.cells #[.string x] 9))) := BW.out.alloc BW.out.size _
          clear a1 hx e1 hq2
          go_wp2_with (first | (at_builtin; refine wpList_append_lies _ rfl _ _ 93 rfl w.heap.size 9 i0 _ 1 16 Try.underlying93 INF.out.1 INF.out.2.1 INF.out.2.2.1 INF.out.2.2.2 rfl (by decide) _ _ _ rfl (World.ownsRow.alloc OW.out _) ⟨wr.heap.size, 0, none⟩ 1 1 [.string x] rfl rfl (one_str _ _ rfl _) (one_strc _) (by decide) cc3.out cc4.out c6.out _ rfl ?_))
          intro g2 cap2 w2 hown hgrow hat hlt2
          rw [strs9_app, ← TK.out] at hown
          have OW2 : Hid (OutS w2 w.heap.size (.slice (some ⟨g2, 0, none⟩) ((nms S q).length + 1) cap2) (nms S (q + 1))) := by
            show OutS _ _ _ _
            unfold OutS
            have : (nms S (q + 1)).length = (nms S q).length + 1 := by rw [TK.out]; simp
            rw [this]; exact hown
          have BW2 : Hid (Below w.heap.size w w2) := BB.out.grown hgrow BB.out.size fun b hb => (World.ownsRow.lt OW.out b hb).1
          clear hown hgrow hat hlt2
          go_wp2
          go_roundw
          case rel => exact ⟨q + 1, by omega, by go_num, OW2.out, BW2.out⟩
          case measure => simp [intOf]; omega
        · have hqn : nms S q = S.names.map (·.1) := nms_all S q (by rw [← HN.out]; omega)
          rw [hqn] at OW
          clear hqn HC
          go_wp2
          go_ret2
          exact ⟨_, ret_vi rfl R.out.1.symm, by rw [R.out.2]; exact OW.out, BW.out⟩
  · have h0' : S.left = 0 := by rw [← hl]; simpa using h0
    have R : Hid (nmE S = 6 ∧ nmL S = []) := by show _ ∧ _; unfold nmE nmL; rw [if_pos h0', if_pos h0']; exact ⟨rfl, rfl⟩
    clear h k hl h0'
    go_enter Try.func129, Try.ntmps129
    go_wp2
    go_ret2
    exact ⟨_, ret_vi rfl R.out.1.symm, by rw [R.out.2]; exact World.ownsRow_nil _ _ _ _, Below.refl _ _⟩
end Go.Proofs.Ytnkgfoabadjboaa
