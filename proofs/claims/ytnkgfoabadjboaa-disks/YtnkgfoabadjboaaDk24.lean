/-
  Read and Sync, by the document. Conditions: the disk stands for a plain state; fewer than 2^41 entries.
-/
import Derived.Test.YtnkgfoabadjboaaDk23
namespace Go.Proofs.Ytnkgfoabadjboaa
open Go.RowKit
set_option linter.unusedVariables false
set_option linter.unusedSimpArgs false
theorem outS_slot {w : World} {base : Nat} {v : Value} {l : List ByteArray} (h : OutS w base v l) {i : Nat} (hi : i < l.length) :
    ∃ g cap, v = .slice (some ⟨g, 0, none⟩) l.length cap ∧ w.cell? ⟨g, i, none⟩ = some (.string (l.getD i ByteArray.empty)) ∧ w.frozen? ⟨g, i, none⟩ = false := by
  rcases Go.Joins.ownsRow_forms h with ⟨rfl, h0⟩ | ⟨g, cap, rfl⟩
  · omega
  · refine ⟨g, cap, rfl, ?_, World.ownsRow.frozenAt h i⟩
    rw [World.ownsRow.cellAt h i (by omega)]
    unfold strs9
    rw [List.getElem?_map, List.getD_eq_getElem?_getD, List.getElem?_eq_getElem hi]; rfl
set_option maxHeartbeats 2000000 in
set_option maxRecDepth 100000 in
theorem rread_any (O : Nat → Prop) (D : Nat) (vN vK vn vs vc : Value) (S : St) (m : Nat) (s : ByteArray) (w : World) (h : RRep w O D vN vK vn vs vc S) (k : S.Ok m) (hm : m < 2199023255552) :
    Calls Try.prog 90 #[.pointer (some ⟨D, 0, none⟩), .string s] w fun e w' => e = .returned (.tuple #[.string (rdT S s), .int .i64 (rdE S s)]) ∧ w' = w := by
  have HH : Hid (RRep w O D vN vK vn vs vc S) := h
  have HK : Hid (S.Ok m) := k
  have c0 : w.cell? ⟨D, 2, none⟩ = some vn := cell_in h.blk 2 _ rfl
  have c3 : w.cell? ⟨D, 5, none⟩ = some (.int .i64 S.left) := cell_in h.blk 5 _ rfl
  obtain ⟨l, hl⟩ : ∃ l, l = S.left := ⟨_, rfl⟩
  rw [← hl] at c3
  cases h0 : (l == 0)
  · have h0' : ¬ S.left = 0 := by rw [← hl]; simpa using h0
    cases hf : findN S.names s with
    | none =>
      have R : Hid (rdT S s = ByteArray.empty ∧ rdE S s = 4) := by show _ ∧ _; unfold rdT rdE; rw [if_neg h0', if_neg h0', hf]; exact ⟨rfl, rfl⟩
      have HF : Hid _ := hf
      clear h k hf hl h0'
      go_enter Try.func90, Try.ntmps90
      go_wp2_with (first
        | (go_at_call 126; refine (rfind_none O D vN vK vn vs vc S m s _ HH.out HK.out hm HF.out).mono ?_; rintro e w' ⟨rfl, hw'⟩; subst w'))
      go_ret2
      exact ⟨ret_st R.out.1.symm R.out.2.symm, rfl⟩
    | some i =>
      have R : Hid (rdT S s = nowOf S i ∧ rdE S s = 0) := by show _ ∧ _; unfold rdT rdE; rw [if_neg h0', if_neg h0', hf]; exact ⟨rfl, rfl⟩
      have hi := find_lt k hf
      have hi2 : S.now.length ≤ m := k.lf
      have HF : Hid _ := hf
      obtain ⟨g, cap, hvN, a0, _⟩ := outS_slot h.now hi
      have cN : w.cell? ⟨D, 0, none⟩ = some vN := cell_in h.blk 0 _ rfl
      rw [hvN] at cN
      have a1 : w.cell? ⟨g, i, none⟩ = some (.string (nowOf S i)) := a0
      obtain ⟨L, hL⟩ : ∃ L, L = S.now.length := ⟨_, rfl⟩
      rw [← hL] at hi hi2 cN
      clear h k hf hl h0' a0 hvN hL
      go_enter Try.func90, Try.ntmps90
      go_wp2_with (first
        | (go_at_call 126; refine (rfind_some O D vN vK vn vs vc S m s i _ HH.out HK.out hm HF.out).mono ?_; rintro e w' ⟨rfl, hw'⟩; subst w'))
      go_ret2
      exact ⟨ret_st R.out.1.symm R.out.2.symm, rfl⟩
  · have h0' : S.left = 0 := by rw [← hl]; simpa using h0
    have R : Hid (rdT S s = ByteArray.empty ∧ rdE S s = 6) := by show _ ∧ _; unfold rdT rdE; rw [if_pos h0', if_pos h0']; exact ⟨rfl, rfl⟩
    clear h k hl h0'
    go_enter Try.func90, Try.ntmps90
    go_wp2
    go_ret2
    exact ⟨ret_st R.out.1.symm R.out.2.symm, rfl⟩
/-- a text of Kept is written -/
theorem RRep.setKept {w : World} {O : Nat → Prop} {D : Nat} {vN vn vs vc : Value} {S : St} {g n cap : Nat} (h : RRep w O D vN (.slice (some ⟨g, 0, none⟩) n cap) vn vs vc S) (i : Nat) (t : ByteArray) :
    RRep (w.setCell ⟨g, i, none⟩ (.string t)) O D vN (.slice (some ⟨g, 0, none⟩) n cap) vn vs vc { S with kept := S.kept.set i t } := by
  have hn : n = S.kept.length := by
    rcases Go.Joins.ownsRow_forms h.kept with ⟨e, _⟩ | ⟨_, _, e⟩
    · simp at e
    · simp at e; exact e.2.1
  subst hn
  have ho : ∀ q, q ≠ g → (w.setCell ⟨g, i, none⟩ (.string t)).heap[q]? = w.heap[q]? := fun q hq => Below.heap_setCell w ⟨g, i, none⟩ _ q hq
  have hD : D ≠ g := fun e => row_ne h.blk h.kept (by decide) g rfl e
  have hs := (World.ownsRow.stored h.kept i (.string t)).1
  exact {
    blk := by rw [ho D hD]; exact h.blk
    now := owns_same h.now fun q hq => ho q (fun e => h.nk q hq (by rw [e]; rfl))
    kept := by
      show World.ownsRow _ _ _ _ _ _ _
      rw [List.length_set]
      have e : strs9 (S.kept.set i t) = (strs9 S.kept).set i (.string t) := by unfold strs9; rw [List.map_set]
      rw [e]; exact hs
    names := owns_same h.names fun q hq => ho q (rows_ne h.names h.kept (by decide) q g hq rfl)
    safe := owns_same h.safe fun q hq => ho q (rows_ne h.safe h.kept (by decide) q g hq rfl)
    chg := owns_same h.chg fun q hq => ho q (rows_ne h.chg h.kept (by decide) q g hq rfl)
    nk := h.nk
    oD := h.oD
    oN := h.oN
    oK := h.oK
    on := h.on
    os := h.os
    oc := h.oc
    lt := fun q hq => by simpa using h.lt q hq }
set_option maxHeartbeats 2000000 in
set_option maxRecDepth 100000 in
theorem rsync_any (O : Nat → Prop) (D : Nat) (vN vK vn vs vc : Value) (S : St) (m : Nat) (s : ByteArray) (w : World) (h : RRep w O D vN vK vn vs vc S) (k : S.Ok m) (hm : m < 2199023255552) :
    Calls Try.prog 92 #[.pointer (some ⟨D, 0, none⟩), .string s] w fun e w' => e = .returned (.int .i64 (syncE S s)) ∧ RRep w' O D vN vK vn vs vc (syncS S s) ∧ Fr O O w w' := by
  have HH : Hid (RRep w O D vN vK vn vs vc S) := h
  have HK : Hid (S.Ok m) := k
  by_cases h0 : S.left = 0
  · have R : Hid (syncE S s = 6 ∧ syncS S s = S) := by show _ ∧ _; unfold syncE syncS; rw [if_pos h0, if_pos h0]; exact ⟨rfl, rfl⟩
    have OPN : Hid _ := h0
    clear h k h0
    go_enter Try.func92, Try.ntmps92
    go_wp2_with (first | (go_at_call 124; refine (rmay_none O D vN vK vn vs vc S _ HH.out OPN.out).mono ?_; rintro e w' ⟨rfl, hw'⟩; subst w'))
    go_ret
    exact ⟨ret_int R.out.1.symm, by rw [R.out.2]; exact HH.out, Fr.refl _ _⟩
  · have OPN : Hid _ := h0
    cases hf : findN S.names s with
    | none =>
      have R : Hid (syncE S s = 4 ∧ syncS S s = opS S) := by show _ ∧ _; unfold syncE syncS; rw [if_neg h0, if_neg h0, hf]; exact ⟨rfl, rfl⟩
      have HF : Hid _ := hf
      clear h k h0 hf
      go_enter Try.func92, Try.ntmps92
      go_wp2_with (first
        | (go_at_call 124; refine (rmay_some O D vN vK vn vs vc S m _ HH.out HK.out OPN.out).mono ?_; rintro e w1 ⟨rfl, X1, F1⟩
           have n1 : w1.cell? ⟨D, 2, none⟩ = some vn := cell_in X1.blk 2 _ rfl
           have HX1 : Hid (RRep w1 O D vN vK vn vs vc (opS S)) := X1
           have HF1 : Hid (Fr O O w w1) := F1
           clear X1 F1)
        | (go_at_call 126; refine (rfind_none O D vN vK vn vs vc (opS S) m s _ HX1.out HK.out.op hm HF.out).mono ?_; rintro e w' ⟨rfl, hw'⟩; subst w'))
      go_ret
      exact ⟨ret_int R.out.1.symm, by rw [R.out.2]; exact HX1.out, HF1.out⟩
    | some i =>
      have hi := find_lt k hf
      have hi2 : S.now.length ≤ m := k.lf
      have hk : i < S.kept.length := by rw [k.len]; exact hi
      have R : Hid (syncE S s = 0 ∧ syncS S s = { opS S with kept := (opS S).kept.set i (nowOf S i) }) := by
        show _ ∧ _
        unfold syncE syncS
        rw [if_neg h0, if_neg h0, hf]
        exact ⟨rfl, rfl⟩
      have HF : Hid _ := hf
      obtain ⟨g, cap, hvN, _, _⟩ := outS_slot h.now hi
      obtain ⟨gk, capk, hvK, _, _⟩ := outS_slot h.kept hk
      subst hvN
      subst hvK
      have HI : Hid (i < (opS S).now.length ∧ i < (opS S).kept.length) := And.intro hi hk
      obtain ⟨L, hL⟩ : ∃ L, L = S.now.length := ⟨_, rfl⟩
      have hLk : S.kept.length = L := by rw [k.len, hL]
      rw [hLk, ← hL] at HH ⊢
      rw [← hL] at hi hi2
      clear h k h0 hf hk hL hLk
      go_enter Try.func92, Try.ntmps92
      go_wp2_with (first
        | (go_at_call 124; refine (rmay_some O D _ _ vn vs vc S m _ HH.out HK.out OPN.out).mono ?_; rintro e w1 ⟨rfl, X1, F1⟩
           have n1 : w1.cell? ⟨D, 2, none⟩ = some vn := cell_in X1.blk 2 _ rfl
           have n2 : w1.cell? ⟨D, 0, none⟩ = some (.slice (some ⟨g, 0, none⟩) L cap) := cell_in X1.blk 0 _ rfl
           have n3 : w1.cell? ⟨D, 1, none⟩ = some (.slice (some ⟨gk, 0, none⟩) L capk) := cell_in X1.blk 1 _ rfl
           have a0 : w1.cell? ⟨g, i, none⟩ = some (.string (nowOf S i)) := by
             obtain ⟨g', cap', e, a, _⟩ := outS_slot X1.now HI.out.1
             simp only [Value.slice.injEq, Option.some.injEq, Addr.mk.injEq, and_true, true_and] at e
             rw [e.1]; exact a
           have a1 : w1.cell? ⟨gk, i, none⟩ = some (.string (keptOf S i)) ∧ w1.frozen? ⟨gk, i, none⟩ = false := by
             obtain ⟨g', cap', e, a, b⟩ := outS_slot X1.kept HI.out.2
             simp only [Value.slice.injEq, Option.some.injEq, Addr.mk.injEq, and_true, true_and] at e
             rw [e.1]; exact ⟨a, b⟩
           obtain ⟨a1, f1⟩ := a1
           have HX1 : Hid (RRep w1 O D (.slice (some ⟨g, 0, none⟩) L cap) (.slice (some ⟨gk, 0, none⟩) L capk) vn vs vc (opS S)) := X1
           have HF1 : Hid (Fr O O w w1) := F1
           clear X1 F1)
        | (go_at_call 126; refine (rfind_some O D _ _ vn vs vc (opS S) m s i _ HX1.out HK.out.op hm HF.out).mono ?_; rintro e w' ⟨rfl, hw'⟩; subst w'))
      go_region
      go_wp2
      go_ret
      refine ⟨ret_int R.out.1.symm, ?_, ?_⟩
      · rw [R.out.2]; exact (HX1.out.setKept i (nowOf S i)).drew
      · exact HF1.out.trans ((fr_at (HX1.out.oK gk rfl) _ _).trans (Fr.below ((Below.refl _ _).drew)))
end Go.Proofs.Ytnkgfoabadjboaa
