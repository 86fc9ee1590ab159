/-
  Names of the program's disk. Conditions: the disk stands for a plain state; fewer than 2^41 entries.
-/
import Derived.Test.YtnkgfoabadjboaaDk15
namespace Go.Proofs.Ytnkgfoabadjboaa
open Go.RowKit
set_option linter.unusedVariables false
set_option linter.unusedSimpArgs false
def strs9 (l : List ByteArray) : List Value := l.map Value.string
theorem strs9_app (l : List ByteArray) (x : ByteArray) : strs9 l ++ [.string x] = strs9 (l ++ [x]) := by simp [strs9]
theorem Try.infoS : (Try.prog.info? 9).map (fun i => (i.zero, i.size, i.bytes)) = some (some (.string ByteArray.empty), 1, 16) := by kernel_rfl
theorem one_str (w : World) (b : Nat) (hb : b = w.heap.size) (x : ByteArray) : ∀ j u, [Value.string x][j]? = some u → (w.alloc (.cells #[.string x] 9)).cell? ((⟨b, 0, none⟩ : Addr).add j) = some u := by
  subst hb
  intro j u hu
  have e : (⟨w.heap.size, 0, none⟩ : Addr).add j = ⟨w.heap.size, j, none⟩ := by unfold Addr.add; split <;> simp_all
  rw [e, World.cell?_alloc_mark]
  simpa using hu
theorem one_strc (x : ByteArray) : ∀ u ∈ [Value.string x], u.oneCell' = true := by
  intro u hu
  simp at hu
  subst hu
  rfl
/-- a list of texts, in memory of its own -/
def OutS (w : World) (B : Nat) (v : Value) (l : List ByteArray) : Prop := w.ownsRow B 9 1 v l.length (strs9 l)
/-- the first q names -/
def nms (S : St) (q : Nat) : List ByteArray := (S.names.take q).map (·.1)
theorem nms_zero (S : St) : nms S 0 = [] := by simp [nms]
theorem nms_succ (S : St) (q : Nat) (h : q < S.names.length) : nms S (q + 1) = nms S q ++ [(S.names[q]).1] := by unfold nms; rw [List.take_succ_eq_append_getElem h, List.map_append]; rfl
theorem nms_len (S : St) (q : Nat) (h : q ≤ S.names.length) : (nms S q).length = q := by unfold nms; rw [List.length_map, List.length_take]; omega
theorem nms_all (S : St) (q : Nat) (h : S.names.length ≤ q) : nms S q = S.names.map (·.1) := by unfold nms; rw [List.take_of_length_le h]
def nmE (S : St) : Int := if S.left = 0 then 6 else 0
def nmL (S : St) : List ByteArray := if S.left = 0 then [] else S.names.map (·.1)
theorem ret_vi {a b : Value} {c d : Int} (h : a = b) (h' : c = d) : Ending.returned (.tuple #[a, .int .i64 c]) = .returned (.tuple #[b, .int .i64 d]) := by rw [h, h']
set_option maxHeartbeats 4000000 in
set_option maxRecDepth 100000 in
theorem xnames_any (O : Nat → Prop) (B : Nat) (fb : Nat → Nat) (vn vk vc : Value) (S : St) (m : Nat) (w : World) (h : XRep w O B fb vn vk vc S) (k : S.Ok m) (hm : m < 2199023255552) :
    Calls Try.prog 128 #[.pointer (some ⟨B, 0, none⟩)] w fun e w' => ∃ v', e = .returned (.tuple #[v', .int .i64 (nmE S)]) ∧ OutS w' w.heap.size v' (nmL S) ∧ Below w.heap.size w w' := by
  have c0 : w.cell? ⟨B, 0, none⟩ = some vn := cell_in h.blk 0 _ rfl
  have c3 : w.cell? ⟨B, 3, none⟩ = some (.int .i64 S.left) := cell_in h.blk 3 _ rfl
  obtain ⟨l, hl⟩ : ∃ l, l = S.left := ⟨_, rfl⟩
  rw [← hl] at c3
  cases h0 : (l == 0)
  · have h0' : ¬ S.left = 0 := by rw [← hl]; simpa using h0
    have R : Hid (nmE S = 0 ∧ nmL S = S.names.map (·.1)) := by show _ ∧ _; unfold nmE nmL; rw [if_neg h0', if_neg h0']; exact ⟨rfl, rfl⟩
    obtain ⟨i0, hi, hz0, hz1, hz2⟩ := info_parts Try.infoS
    have INF : Hid _ := And.intro hi (And.intro hz0 (And.intro hz1 hz2))
    clear hi hz0 hz1 hz2
    have ENT := ents_of h.names (by have := k.ln; simp; omega)
    have LN : Hid (S.names.length ≤ m) := k.ln
    rcases ENT with ⟨rfl, hnil⟩ | ⟨g, cap, rfl, hl62, hg, hc⟩
    · have HN : Hid (S.names.map (·.1) = []) := by show _ = _; have : S.names = [] := List.map_eq_nil_iff.1 hnil; rw [this]; rfl
      clear h k h0' hl hnil LN
      go_enter Try.func128, Try.ntmps128
      go_wp2
      refine wp_loop_rounds 1 ?_
      rw [rounds_succ]
      go_wp2
      go_ret2
      exact ⟨_, ret_vi rfl R.out.1.symm, by rw [R.out.2, HN.out]; exact World.ownsRow_nil _ _ _ _, Below.refl _ _⟩
    · rw [List.length_map] at hl62 c0
      obtain ⟨n, hnn⟩ : ∃ n, n = S.names.length := ⟨_, rfl⟩
      have HN : Hid _ := hnn
      have HC : Hid (∀ i, i < (S.names.map (toE fb)).length → w.cell? ⟨g, i * 2, none⟩ = some (.string ((S.names.map (toE fb)).getD i dE).1) ∧ w.cell? ⟨g, i * 2 + 1, none⟩ = some (.pointer ((S.names.map (toE fb)).getD i dE).2)) := hc
      rw [← hnn] at hl62 c0
      clear h k h0' hl hc hnn
      go_enter Try.func128, Try.ntmps128
      go_wp2
      go_loopw [4, 17] (fun ov iv wr => ∃ q : Nat, q ≤ n ∧ iv = .int .i64 q ∧ Hid (OutS wr w.heap.size ov (nms S q)) ∧ Hid (Below w.heap.size w wr)) (fun _ iv _ => n - (intOf iv).toNat)
      case atStart => exact ⟨0, by omega, rfl, by show OutS _ _ _ _; rw [nms_zero]; exact World.ownsRow_nil _ _ _ _, Below.refl _ _⟩
      case round =>
        obtain ⟨q, hq, rfl, OW, BW⟩ := hrel
        by_cases hlt : q < n
        · have hq2 : q < S.names.length := by rw [← HN.out]; exact hlt
          obtain ⟨a1, a2⟩ := HC.out q (by simpa using hq2)
          obtain ⟨x, hx⟩ : ∃ x, x = (S.names[q]).1 := ⟨_, rfl⟩
          obtain ⟨y, hy⟩ : ∃ y, y = (toE fb S.names[q]).2 := ⟨_, rfl⟩
          have e1 : ((S.names.map (toE fb)).getD q dE) = (x, y) := by
            rw [hx, hy, List.getD_eq_getElem?_getD, List.getElem?_map, List.getElem?_eq_getElem hq2]; rfl
          rw [e1] at a1 a2
          have TK : Hid (nms S (q + 1) = nms S q ++ [x]) := by show _ = _; rw [hx]; exact nms_succ S q hq2
          have LL : Hid ((nms S q).length = q) := nms_len S q (by omega)
          have d1 : wr.cell? ⟨g, q * 2, none⟩ = some (.string x) := (BW.out.cell (p := ⟨g, q * 2, none⟩) hg).trans a1
          have d2 : wr.cell? ⟨g, q * 2 + 1, none⟩ = some (.pointer y) := (BW.out.cell (p := ⟨g, q * 2 + 1, none⟩) hg).trans a2
          have c6 : Hid (w.heap.size ≤ ((wr.alloc (.cells #[.string x, .pointer y] 138)).alloc (.cells #[.string x] 9)).heap.size) := by show _ ≤ _; have := BW.out.size; simp; omega
          have cc3 : Hid ((nms S q).length + 1 ≤ maxLen) := by show _ ≤ _; rw [LL.out]; have := LN.out; rw [← HN.out] at this; unfold maxLen; omega
          have cc4 : Hid (((nms S q).length + 1) * 16 ≤ 140737488355328) := by show _ ≤ _; rw [LL.out]; have := LN.out; rw [← HN.out] at this; omega
          have BB : Hid (Below w.heap.size w ((wr.alloc (.cells #[.string x, .pointer y] 138)).alloc (.cells #[.string x] 9))) := (BW.out.alloc BW.out.size _).alloc (BW.out.alloc BW.out.size _).size _
          have hgw : Hid (g < wr.heap.size) := Nat.lt_of_lt_of_le hg BW.out.size
          clear a1 a2 hx hy e1 hq2
          go_wp2_with (first | (at_builtin; refine wpList_append_lies _ rfl _ _ 93 rfl w.heap.size 9 i0 _ 1 16 Try.underlying93 INF.out.1 INF.out.2.1 INF.out.2.2.1 INF.out.2.2.2 rfl (by decide) _ _ _ rfl (World.ownsRow.alloc (World.ownsRow.alloc OW.out _) _) ⟨wr.heap.size + 1, 0, none⟩ 1 1 [.string x] rfl rfl (one_str _ _ (by simp) _) (one_strc _) (by decide) cc3.out cc4.out c6.out _ rfl ?_))
          intro g2 cap2 w2 hown hgrow hat hlt2
          rw [strs9_app, ← TK.out] at hown
          have OW2 : Hid (OutS w2 w.heap.size (.slice (some ⟨g2, 0, none⟩) ((nms S q).length + 1) cap2) (nms S (q + 1))) := by
            show OutS _ _ _ _
            unfold OutS
            have : (nms S (q + 1)).length = (nms S q).length + 1 := by rw [TK.out]; simp
            rw [this]; exact hown
          have BW2 : Hid (Below w.heap.size w w2) := BB.out.grown hgrow BB.out.size fun b hb => (World.ownsRow.lt OW.out b hb).1
          clear hown hgrow hat hlt2
          go_wp2
          go_roundw
          case rel => exact ⟨q + 1, by omega, by go_num, OW2.out, BW2.out⟩
          case measure => simp [intOf]; omega
        · have hqn : nms S q = S.names.map (·.1) := nms_all S q (by rw [← HN.out]; omega)
          rw [hqn] at OW
          clear hqn HC
          go_wp2
          go_ret2
          exact ⟨_, ret_vi rfl R.out.1.symm, by rw [R.out.2]; exact OW.out, BW.out⟩
  · have h0' : S.left = 0 := by rw [← hl]; simpa using h0
    have R : Hid (nmE S = 6 ∧ nmL S = []) := by show _ ∧ _; unfold nmE nmL; rw [if_pos h0', if_pos h0']; exact ⟨rfl, rfl⟩
    clear h k hl h0'
    go_enter Try.func128, Try.ntmps128
    go_wp2
    go_ret2
    exact ⟨_, ret_vi rfl R.out.1.symm, by rw [R.out.2]; exact World.ownsRow_nil _ _ _ _, Below.refl _ _⟩
end Go.Proofs.Ytnkgfoabadjboaa
