/-
  What a change makes of a directory, as the program reckons it. Conditions: the entries are there; fewer than 2^42.
-/
import Derived.Test.YtnkgfoabadjboaaDk7
import Derived.Deep.Cut
namespace Go.Proofs.Ytnkgfoabadjboaa
open Go.RowKit
set_option linter.unusedVariables false
set_option linter.unusedSimpArgs false
def dropE (l : List PE) (g n : ByteArray) : List PE := l.filter fun e => !sm e.1 g && !sm e.1 n
def newE (n : ByteArray) (p : Option Addr) : List PE := match p with
  | none => []
  | some _ => [(n, p)]
theorem dropE_take (l : List PE) (g n : ByteArray) (k : Nat) (hk : k < l.length) : dropE (l.take (k + 1)) g n = dropE (l.take k) g n ++ if (!sm (l.getD k dE).1 g && !sm (l.getD k dE).1 n) = true then [l.getD k dE] else [] := by
  unfold dropE
  rw [List.take_succ_eq_append_getElem hk, List.filter_append, List.getD_eq_getElem?_getD, List.getElem?_eq_getElem hk]
  simp [List.filter_cons]
theorem dropE_len (l : List PE) (g n : ByteArray) (k : Nat) : (dropE (l.take k) g n).length ≤ l.length := by
  have h1 : (dropE (l.take k) g n).length ≤ (l.take k).length := List.length_filter_le _ _
  have h2 : (l.take k).length ≤ l.length := by rw [List.length_take]; omega
  omega
theorem Try.infoE : (Try.prog.info? 138).map (fun i => (i.zero, i.size, i.bytes)) = some (some (.agg #[.string ByteArray.empty, .pointer none]), 2, 24) := by kernel_rfl
theorem two_news (w : World) (s : ByteArray) (p : Option Addr) : ∀ j u, [Value.string s, Value.pointer p][j]? = some u → (w.alloc (.cells #[.string s, .pointer p] 138)).cell? ((⟨w.heap.size, 0, none⟩ : Addr).add j) = some u := by
  intro j u hu
  have e : (⟨w.heap.size, 0, none⟩ : Addr).add j = ⟨w.heap.size, j, none⟩ := by unfold Addr.add; split <;> simp_all
  rw [e, World.cell?_alloc_mark]
  simpa using hu
theorem two_news_at (w : World) (b : Nat) (hb : b = w.heap.size) (s : ByteArray) (p : Option Addr) : ∀ j u, [Value.string s, Value.pointer p][j]? = some u → (w.alloc (.cells #[.string s, .pointer p] 138)).cell? ((⟨b, 0, none⟩ : Addr).add j) = some u := by
  subst hb; exact two_news w s p
theorem two_one (s : ByteArray) (p : Option Addr) : ∀ u ∈ [Value.string s, Value.pointer p], u.oneCell' = true := by
  intro u hu
  simp at hu
  rcases hu with rfl | rfl <;> rfl
theorem flatE_snoc (l : List PE) (s : ByteArray) (p : Option Addr) : flatE l ++ [.string s, .pointer p] = flatE (l ++ [(s, p)]) := by rw [flatE_app]; rfl
/-- the row that is under way -/
def OutE (w : World) (B : Nat) (v : Value) (l : List PE) : Prop := w.ownsRow B 138 2 v l.length (flatE l)
theorem OutE.grow {w w' : World} {B : Nat} {v : Value} {l : List PE} (h : OutE w B v l) (hg : w.grownBy w' none) : OutE w' B v l := by
  rcases Go.Joins.ownsRow_forms h with ⟨rfl, h0⟩ | ⟨g, cap, rfl⟩
  · exact h.kept hg (Or.inl rfl)
  · exact h.kept hg (Or.inr (by simp [Value.ownBlock]))
set_option maxHeartbeats 4000000 in
set_option maxRecDepth 100000 in
theorem changed_any (v : Value) (l : List PE) (gn nm : ByteArray) (p : Option Addr) (w : World) (hv : Ents w v l) (hn : l.length < 4398046511103) :
    Calls Try.prog 131 #[v, .agg #[.string gn, .string nm, .pointer p]] w fun e w' => ∃ v' l', e = .returned v' ∧ OutE w' (w.heap.size + 1) v' l' ∧ Below w.heap.size w w' ∧ l'.Perm (dropE l gn nm ++ newE nm p) ∧ l'.Pairwise (fun a b => ltN b.1 a.1 = false) := by
  obtain ⟨W, hW⟩ : ∃ W, w.alloc (.cells #[.string gn, .string nm, .pointer p] 125) = W := ⟨_, rfl⟩
  have b0 : W.heap[w.heap.size]? = some (.cells #[.string gn, .string nm, .pointer p] 125 (0, 0)) := by rw [← hW]; exact heap_alloc_new w _
  have BE : Hid (Below w.heap.size w W) := by show Below _ _ _; rw [← hW]; exact (Below.refl _ _).alloc (Nat.le_refl _) _
  have WS : Hid (W.heap.size = w.heap.size + 1) := by show _ = _; rw [← hW]; simp
  have B0 : Hid _ := b0
  have HW : Hid _ := hW
  obtain ⟨n, hnn⟩ : ∃ n, n = l.length := ⟨_, rfl⟩
  have HV : Hid _ := hv
  have HN : Hid _ := hnn
  obtain ⟨i0, hi, hz0, hz1, hz2⟩ := info_parts Try.infoE
  have INF : Hid _ := And.intro hi (And.intro hz0 (And.intro hz1 hz2))
  clear b0 hW hi hz0 hz1 hz2
  rcases hv with ⟨rfl, rfl⟩ | ⟨g, cap, rfl, hl62, hg, hc⟩
  · have OW : Hid (OutE W (w.heap.size + 1) (.slice none 0 0) (dropE [] gn nm)) := World.ownsRow_nil _ _ _ _
    have BX : Hid (W.heap[w.heap.size]? = some (.cells #[.string gn, .string nm, .pointer p] 125 (0, 0))) := B0.out
    have BW : Hid (Below w.heap.size w W) := BE.out
    have HS1 : Hid (w.heap.size + 1 ≤ W.heap.size) := by show _ ≤ _; rw [WS.out]; exact Nat.le_refl _
    have DL : Hid ((dropE [] gn nm).length < 4398046511103) := by show _ < _; simp [dropE]
    clear HV HN
    go_enter Try.func131, Try.ntmps131
    go_upto_region 1 with fail
    rw [HW.out]
    go_wp2
    refine wp_loop_rounds 1 ?_
    rw [rounds_succ]
    go_upto_region 8 with fail
    have x0 : W.cell? ⟨w.heap.size, 0, none⟩ = some (.string gn) := (cell_of W _ 0 _ _ _ BX.out).trans rfl
    have x1 : W.cell? ⟨w.heap.size, 1, none⟩ = some (.string nm) := (cell_of W _ 1 _ _ _ BX.out).trans rfl
    have x2 : W.cell? ⟨w.heap.size, 2, none⟩ = some (.pointer p) := (cell_of W _ 2 _ _ _ BX.out).trans rfl
    cases p with
    | none =>
      have PQ : Hid (dropE [] gn nm ++ newE nm none = dropE [] gn nm) := by show _ = _; unfold newE; simp
      go_wp2_with (first | (go_at_call 144; refine (AnyF.slices_SortFunc_none Try.sortE none 0 _ _).mono ?_; rintro e w' ⟨rfl, hw'⟩; subst w'))
      go_ret
      exact ⟨_, [], rfl, World.ownsRow_nil _ _ _ _, BW.out, by rw [PQ.out]; exact List.Perm.refl _, List.Pairwise.nil⟩
    | some a =>
      have PQ : Hid (dropE [] gn nm ++ newE nm (some a) = dropE [] gn nm ++ [(nm, some a)]) := rfl
      have c6 : Hid (w.heap.size + 1 ≤ (W.alloc (.cells #[.string nm, .pointer (some a)] 138)).heap.size) := by show _ ≤ _; have := HS1.out; simp; omega
      have c3 : Hid ((dropE [] gn nm).length + 1 ≤ maxLen) := by show _ ≤ _; have := DL.out; unfold maxLen; omega
      have c4 : Hid (((dropE [] gn nm).length + 1) * 24 ≤ 140737488355328) := by show _ ≤ _; have := DL.out; omega
      go_wp2_with (first | (at_builtin; refine wpList_append_lies _ rfl _ _ 89 rfl (w.heap.size + 1) 138 i0 _ 2 24 Try.underlying89 INF.out.1 INF.out.2.1 INF.out.2.2.1 INF.out.2.2.2 rfl (by decide) _ _ _ rfl (World.ownsRow.alloc OW.out _) ⟨W.heap.size, 0, none⟩ 1 1 [.string nm, .pointer (some a)] rfl rfl (two_news _ _ _) (two_one _ _) (by decide) c3.out c4.out c6.out _ rfl ?_))
      intro g2 cap2 w2 hown hgrow hat hlt2
      rw [flatE_snoc] at hown
      have hown2 : w2.ownsRow (w.heap.size + 1) 138 2 (.slice (some ⟨g2, 0, none⟩) (dropE [] gn nm ++ [(nm, some a)]).length cap2) (dropE [] gn nm ++ [(nm, some a)]).length (flatE (dropE [] gn nm ++ [(nm, some a)])) := by rw [List.length_append]; exact hown
      have gb : Hid (w.heap.size + 1 ≤ g2) := (hown2.lt g2 rfl).1
      have BW2 : Hid (Below w.heap.size w w2) := (BW.out.alloc BW.out.size _).grown hgrow (BW.out.alloc BW.out.size _).size fun k hk => by have := (World.ownsRow.lt OW.out k hk).1; omega
      have OWN : Hid (w2.ownsRow (w.heap.size + 1) 138 2 (.slice (some ⟨g2, 0, none⟩) ((dropE [] gn nm).length + 1) cap2) ((dropE [] gn nm).length + 1) (flatE (dropE [] gn nm ++ [(nm, some a)]))) := hown
      have DL2 : Hid ((dropE [] gn nm).length + 1 < 4611686018427387904) := by show _ < _; have := DL.out; omega
      clear hown hown2 hgrow hat hlt2
      go_wp2_with (first | (go_at_call 144; refine (sort_anyN (w.heap.size + 1) g2 cap2 _ (dropE [] gn nm ++ [(nm, some a)]) _ (by simp) OWN.out DL2.out).mono ?_; rintro e w3 ⟨rfl, l2, hp, hs, ho, hg⟩; have HP : Hid _ := hp; have HSS : Hid _ := hs; have HO : Hid _ := ho; have HG : Hid _ := hg; clear hp hs ho hg))
      go_ret
      exact ⟨_, l2, rfl, by have := HP.out.length_eq; unfold OutE; rw [this, List.length_append]; exact HO.out, BW2.out.grown HG.out BW2.out.size (fun k hk => by injection hk with hk; have := gb.out; omega), by rw [PQ.out]; exact HP.out, HSS.out⟩
  · have HC : Hid (∀ i, i < l.length → w.cell? ⟨g, i * 2, none⟩ = some (.string (l.getD i dE).1) ∧ w.cell? ⟨g, i * 2 + 1, none⟩ = some (.pointer (l.getD i dE).2)) := hc
    rw [← hnn] at hl62 hn
    clear hc HV hnn
    go_enter Try.func131, Try.ntmps131
    go_upto_region 1 with fail
    rw [HW.out, ← HN.out]
    go_wp2
    go_loopw [5, 10] (fun ov iv wr => ∃ k : Nat, k ≤ n ∧ iv = .int .i64 k ∧ Hid (OutE wr (w.heap.size + 1) ov (dropE (l.take k) gn nm)) ∧ Hid (wr.heap[w.heap.size]? = some (.cells #[.string gn, .string nm, .pointer p] 125 (0, 0))) ∧ Hid (Below w.heap.size w wr) ∧ Hid (w.heap.size + 1 ≤ wr.heap.size)) (fun _ iv _ => n - (intOf iv).toNat)
    case atStart => exact ⟨0, by omega, rfl, World.ownsRow_nil _ _ _ _, B0.out, BE.out, by show _ ≤ _; rw [WS.out]; exact Nat.le_refl _⟩
    case round =>
      obtain ⟨k, hk, rfl, OW, BX, BW, HS1⟩ := hrel
      by_cases hlt : k < n
      · obtain ⟨c1, c2⟩ := HC.out k (by rw [← HN.out]; exact hlt)
        have DT : Hid _ := dropE_take l gn nm k (by rw [← HN.out]; exact hlt)
        have EL : Hid ((l.getD k dE).1 = (l.getD k dE).1 ∧ (l.getD k dE) = ((l.getD k dE).1, (l.getD k dE).2)) := ⟨rfl, rfl⟩
        obtain ⟨x, hx⟩ : ∃ x, x = (l.getD k dE).1 := ⟨_, rfl⟩
        obtain ⟨q, hq⟩ : ∃ q, q = (l.getD k dE).2 := ⟨_, rfl⟩
        have DL : Hid ((dropE (l.take k) gn nm).length < 4398046511103) := by show _ < _; have := dropE_len l gn nm k; rw [← HN.out] at this; omega
        have E0 : Hid (l.getD k dE = (x, q)) := by show _ = _; rw [hx, hq]
        rw [E0.out] at DT
        rw [← hx] at c1
        rw [← hq] at c2
        have d1 : wr.cell? ⟨g, k * 2, none⟩ = some (.string x) := (BW.out.cell (p := ⟨g, k * 2, none⟩) hg).trans c1
        have d2 : wr.cell? ⟨g, k * 2 + 1, none⟩ = some (.pointer q) := (BW.out.cell (p := ⟨g, k * 2 + 1, none⟩) hg).trans c2
        have x0 : wr.cell? ⟨w.heap.size, 0, none⟩ = some (.string gn) := (cell_of wr _ 0 _ _ _ BX.out).trans rfl
        have x1 : wr.cell? ⟨w.heap.size, 1, none⟩ = some (.string nm) := (cell_of wr _ 1 _ _ _ BX.out).trans rfl
        have hgw : Hid (g < wr.heap.size) := Nat.lt_of_lt_of_le hg BW.out.size
        have nb0 := World.new_ne wr _ x0
        have nb1 : ¬ w.heap.size = wr.heap.size := fun e => nb0 e.symm
        have nb2 : w.heap.size < wr.heap.size := by have := HS1.out; omega
        have y0 : (wr.alloc (.cells #[.string x, .pointer q] 138)).cell? ⟨w.heap.size, 0, none⟩ = some (.string gn) := (World.cell?_alloc_lt _ _ _ nb2).trans x0
        have y1 : (wr.alloc (.cells #[.string x, .pointer q] 138)).cell? ⟨w.heap.size, 1, none⟩ = some (.string nm) := (World.cell?_alloc_lt _ _ _ nb2).trans x1
        have BX2 : Hid ((wr.alloc (.cells #[.string x, .pointer q] 138)).heap[w.heap.size]? = some (.cells #[.string gn, .string nm, .pointer p] 125 (0, 0))) := by show _ = _; rw [Below.heap_alloc _ _ _ (by have := HS1.out; omega)]; exact BX.out
        have S2 : Hid (w.heap.size + 1 ≤ (wr.alloc (.cells #[.string x, .pointer q] 138)).heap.size) := by show _ ≤ _; have := HS1.out; simp; omega
        clear c1 c2 hx hq E0 EL
        cases h1 : (x.toList == gn.toList)
        · cases h2 : (x.toList == nm.toList)
          · have DT2 : Hid (dropE (l.take (k + 1)) gn nm = dropE (l.take k) gn nm ++ [(x, q)]) := by show _ = _; rw [DT.out]; simp [sm, h1, h2]
            clear DT
            have c6 : Hid (w.heap.size + 1 ≤ ((wr.alloc (.cells #[.string x, .pointer q] 138)).alloc (.cells #[.string x, .pointer q] 138)).heap.size) := by show _ ≤ _; have := HS1.out; simp; omega
            have c3 : Hid ((dropE (l.take k) gn nm).length + 1 ≤ maxLen) := by show _ ≤ _; have := DL.out; unfold maxLen; omega
            have c4 : Hid (((dropE (l.take k) gn nm).length + 1) * 24 ≤ 140737488355328) := by show _ ≤ _; have := DL.out; omega
            have BB : Hid (Below w.heap.size w ((wr.alloc (.cells #[.string x, .pointer q] 138)).alloc (.cells #[.string x, .pointer q] 138))) := (BW.out.alloc BW.out.size _).alloc (BW.out.alloc BW.out.size _).size _
            have BX3 : Hid (((wr.alloc (.cells #[.string x, .pointer q] 138)).alloc (.cells #[.string x, .pointer q] 138)).heap[w.heap.size]? = some (.cells #[.string gn, .string nm, .pointer p] 125 (0, 0))) := by show _ = _; rw [Below.heap_alloc _ _ _ (by have := S2.out; omega)]; exact BX2.out
            go_wp2_with (first | (at_builtin; refine wpList_append_lies _ rfl _ _ 89 rfl (w.heap.size + 1) 138 i0 _ 2 24 Try.underlying89 INF.out.1 INF.out.2.1 INF.out.2.2.1 INF.out.2.2.2 rfl (by decide) _ _ _ rfl (World.ownsRow.alloc (World.ownsRow.alloc OW.out _) _) ⟨wr.heap.size + 1, 0, none⟩ 1 1 [.string x, .pointer q] rfl rfl (two_news_at _ _ (by simp) _ _) (two_one _ _) (by decide) c3.out c4.out c6.out _ rfl ?_))
            intro g2 cap2 w2 hown hgrow hat hlt2
            rw [flatE_snoc] at hown
            have OW2 : Hid (OutE w2 (w.heap.size + 1) (.slice (some ⟨g2, 0, none⟩) ((dropE (l.take k) gn nm).length + 1) cap2) (dropE (l.take (k + 1)) gn nm)) := by show OutE _ _ _ _; rw [DT2.out]; unfold OutE; rw [List.length_append]; exact hown
            have BW2 : Hid (Below w.heap.size w w2) := BB.out.grown hgrow BB.out.size fun b hb => by have := (World.ownsRow.lt OW.out b hb).1; omega
            have BX4 : Hid (w2.heap[w.heap.size]? = some (.cells #[.string gn, .string nm, .pointer p] 125 (0, 0))) := by
              show _ = _
              rw [hgrow.block _ (by have := c6.out; omega) (fun e => by have := (World.ownsRow.lt OW.out _ e.symm).1; omega)]
              exact BX3.out
            have S4 : Hid (w.heap.size + 1 ≤ w2.heap.size) := Nat.le_trans c6.out hgrow.size
            clear hown hgrow hat hlt2
            go_wp2
            go_roundw
            case rel => exact ⟨k + 1, by omega, by go_num, OW2.out, BX4.out, BW2.out, S4.out⟩
            case measure => simp [intOf]; omega
          · have DT2 : Hid (dropE (l.take (k + 1)) gn nm = dropE (l.take k) gn nm) := by show _ = _; rw [DT.out]; simp [sm, h1, h2]
            clear DT
            go_wp2
            go_roundw
            case rel => exact ⟨k + 1, by omega, by go_num, by show OutE _ _ _ _; rw [DT2.out]; exact World.ownsRow.alloc OW.out _, BX2.out, BW.out.alloc BW.out.size _, S2.out⟩
            case measure => simp [intOf]; omega
        · have DT2 : Hid (dropE (l.take (k + 1)) gn nm = dropE (l.take k) gn nm) := by show _ = _; rw [DT.out]; simp [sm, h1]
          clear DT
          go_wp2
          go_roundw
          case rel => exact ⟨k + 1, by omega, by go_num, by show OutE _ _ _ _; rw [DT2.out]; exact World.ownsRow.alloc OW.out _, BX2.out, BW.out.alloc BW.out.size _, S2.out⟩
          case measure => simp [intOf]; omega
      · have hkn : l.take k = l := List.take_of_length_le (by rw [← HN.out]; omega)
        rw [hkn] at OW
        have DL : Hid ((dropE l gn nm).length < 4398046511103) := by
          show _ < _
          have : (dropE l gn nm).length ≤ l.length := List.length_filter_le _ _
          rw [← HN.out] at this; omega
        clear hkn HC
        go_upto_region 8 with fail
        have x0 : wr.cell? ⟨w.heap.size, 0, none⟩ = some (.string gn) := (cell_of wr _ 0 _ _ _ BX.out).trans rfl
        have x1 : wr.cell? ⟨w.heap.size, 1, none⟩ = some (.string nm) := (cell_of wr _ 1 _ _ _ BX.out).trans rfl
        have x2 : wr.cell? ⟨w.heap.size, 2, none⟩ = some (.pointer p) := (cell_of wr _ 2 _ _ _ BX.out).trans rfl
        cases p with
        | none =>
          have PQ : Hid (dropE l gn nm ++ newE nm none = dropE l gn nm) := by show _ = _; unfold newE; simp
          rcases Go.Joins.ownsRow_forms OW.out with ⟨rfl, h0⟩ | ⟨g2, cap2, rfl⟩
          · have HO : Hid (dropE l gn nm = []) := List.eq_nil_of_length_eq_zero h0
            go_wp2_with (first | (go_at_call 144; refine (AnyF.slices_SortFunc_none Try.sortE none 0 _ _).mono ?_; rintro e w' ⟨rfl, hw'⟩; subst w'))
            go_ret
            exact ⟨_, [], rfl, World.ownsRow_nil _ _ _ _, BW.out, by rw [PQ.out, HO.out], List.Pairwise.nil⟩
          · have gb : Hid (w.heap.size + 1 ≤ g2) := (OW.out.lt g2 rfl).1
            have DL2 : Hid ((dropE l gn nm).length < 4611686018427387904) := by show _ < _; have := DL.out; omega
            go_wp2_with (first | (go_at_call 144; refine (sort_anyN (w.heap.size + 1) g2 cap2 _ (dropE l gn nm) _ rfl OW.out DL2.out).mono ?_; rintro e w2 ⟨rfl, l2, hp, hs, ho, hg⟩; have HP : Hid _ := hp; have HS : Hid _ := hs; have HO : Hid _ := ho; have HG : Hid _ := hg; clear hp hs ho hg))
            go_ret
            exact ⟨_, l2, rfl, by have := HP.out.length_eq; unfold OutE; rw [this]; exact HO.out, BW.out.grown HG.out BW.out.size (fun k hk => by injection hk with hk; have := gb.out; omega), by rw [PQ.out]; exact HP.out, HS.out⟩
        | some a =>
          have PQ : Hid (dropE l gn nm ++ newE nm (some a) = dropE l gn nm ++ [(nm, some a)]) := rfl
          have c6 : Hid (w.heap.size + 1 ≤ (wr.alloc (.cells #[.string nm, .pointer (some a)] 138)).heap.size) := by show _ ≤ _; have := HS1.out; simp; omega
          have c3 : Hid ((dropE l gn nm).length + 1 ≤ maxLen) := by show _ ≤ _; have := DL.out; unfold maxLen; omega
          have c4 : Hid (((dropE l gn nm).length + 1) * 24 ≤ 140737488355328) := by show _ ≤ _; have := DL.out; omega
          go_wp2_with (first | (at_builtin; refine wpList_append_lies _ rfl _ _ 89 rfl (w.heap.size + 1) 138 i0 _ 2 24 Try.underlying89 INF.out.1 INF.out.2.1 INF.out.2.2.1 INF.out.2.2.2 rfl (by decide) _ _ _ rfl (World.ownsRow.alloc OW.out _) ⟨wr.heap.size, 0, none⟩ 1 1 [.string nm, .pointer (some a)] rfl rfl (two_news _ _ _) (two_one _ _) (by decide) c3.out c4.out c6.out _ rfl ?_))
          intro g2 cap2 w2 hown hgrow hat hlt2
          rw [flatE_snoc] at hown
          have hown2 : w2.ownsRow (w.heap.size + 1) 138 2 (.slice (some ⟨g2, 0, none⟩) (dropE l gn nm ++ [(nm, some a)]).length cap2) (dropE l gn nm ++ [(nm, some a)]).length (flatE (dropE l gn nm ++ [(nm, some a)])) := by rw [List.length_append]; exact hown
          have gb : Hid (w.heap.size + 1 ≤ g2) := (hown2.lt g2 rfl).1
          have BW2 : Hid (Below w.heap.size w w2) := (BW.out.alloc BW.out.size _).grown hgrow (BW.out.alloc BW.out.size _).size fun k hk => by have := (World.ownsRow.lt OW.out k hk).1; omega
          have OWN : Hid (w2.ownsRow (w.heap.size + 1) 138 2 (.slice (some ⟨g2, 0, none⟩) ((dropE l gn nm).length + 1) cap2) ((dropE l gn nm).length + 1) (flatE (dropE l gn nm ++ [(nm, some a)]))) := hown
          have DL2 : Hid ((dropE l gn nm).length + 1 < 4611686018427387904) := by show _ < _; have := DL.out; omega
          clear hown hown2 hgrow hat hlt2
          go_wp2_with (first | (go_at_call 144; refine (sort_anyN (w.heap.size + 1) g2 cap2 _ (dropE l gn nm ++ [(nm, some a)]) _ (by simp) OWN.out DL2.out).mono ?_; rintro e w3 ⟨rfl, l2, hp, hs, ho, hg⟩; have HP : Hid _ := hp; have HSS : Hid _ := hs; have HO : Hid _ := ho; have HG : Hid _ := hg; clear hp hs ho hg))
          go_ret
          exact ⟨_, l2, rfl, by have := HP.out.length_eq; unfold OutE; rw [this, List.length_append]; exact HO.out, BW2.out.grown HG.out BW2.out.size (fun k hk => by injection hk with hk; have := gb.out; omega), by rw [PQ.out]; exact HP.out, HSS.out⟩
end Go.Proofs.Ytnkgfoabadjboaa
