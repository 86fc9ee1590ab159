/-
  One more change of names, as the program makes it. Conditions: the disk stands for a plain state; fewer than 2^41 entries.
-/
import Derived.Test.YtnkgfoabadjboaaDk9
import Derived.Deep.RegionWith
import Derived.Deep.RegionLaw
import Derived.Lib.OwnKind
namespace Go.Proofs.Ytnkgfoabadjboaa
open Go.RowKit
set_option linter.unusedVariables false
set_option linter.unusedSimpArgs false
theorem cell_in {w : World} {g : Nat} {cs : Array Value} {t : TypeId} {fr : Nat × Nat} (h : w.heap[g]? = some (.cells cs t fr)) (i : Nat) (v : Value) (hi : cs[i]? = some v) : w.cell? ⟨g, i, none⟩ = some v := (cell_of w g i cs t fr h).trans hi
theorem unfrozen_in {w : World} {g : Nat} {cs : Array Value} {t : TypeId} (h : w.heap[g]? = some (.cells cs t (0, 0))) (i : Nat) : w.frozen? ⟨g, i, none⟩ = false := by simp [World.frozen?, h]
theorem Try.infoC : (Try.prog.info? 125).map (fun i => (i.zero, i.size, i.bytes)) = some (some (.agg #[.string ByteArray.empty, .string ByteArray.empty, .pointer none]), 3, 40) := by kernel_rfl
theorem three_news (w : World) (b : Nat) (hb : b = w.heap.size) (s t : ByteArray) (p : Option Addr) : ∀ j u, [Value.string s, Value.string t, Value.pointer p][j]? = some u → (w.alloc (.cells #[.string s, .string t, .pointer p] 125)).cell? ((⟨b, 0, none⟩ : Addr).add j) = some u := by
  subst hb
  intro j u hu
  have e : (⟨w.heap.size, 0, none⟩ : Addr).add j = ⟨w.heap.size, j, none⟩ := by unfold Addr.add; split <;> simp_all
  rw [e, World.cell?_alloc_mark]
  simpa using hu
theorem three_one (s t : ByteArray) (p : Option Addr) : ∀ u ∈ [Value.string s, Value.string t, Value.pointer p], u.oneCell' = true := by
  intro u hu
  simp at hu
  rcases hu with rfl | rfl | rfl <;> rfl
/-- the names are put in their place -/
theorem XRep.setNames {w : World} {O : Nat → Prop} {B : Nat} {fb : Nat → Nat} {vn vk vc v' : Value} {S : St} {base : Nat} {L : List Ent} (h : XRep w O B fb vn vk vc S) (hv : OutE w base v' (L.map (toE fb))) (hb : ∀ k, v'.ownBlock = some k → ¬ O k) :
    XRep (w.setCell ⟨B, 0, none⟩ v') (fun k => O k ∨ v'.ownBlock = some k) B fb v' vk vc { S with names := L } := by
  have hs : (w.setCell ⟨B, 0, none⟩ v').heap.size = w.heap.size := by simp
  have ho : ∀ k, k ≠ B → (w.setCell ⟨B, 0, none⟩ v').heap[k]? = w.heap[k]? := fun k hk => Below.heap_setCell w ⟨B, 0, none⟩ v' k hk
  have hne : ∀ {u : Value} {t : TypeId} {sz n : Nat} {xs : List Value} {bs : Nat}, t ≠ 92 → w.ownsRow bs t sz u n xs → ∀ g, u.ownBlock = some g → g ≠ B := by
    intro u t sz n xs bs ht hu g hg e
    subst e
    obtain ⟨c, fz, hc⟩ := Go.Lib.ownsRow_kind hu g hg
    rw [h.blk] at hc
    injection hc with hc
    injection hc with _ hc _
    exact ht hc.symm
  exact {
    blk := by rw [heap_set w B 0 v' _ _ _ h.blk]; rfl
    names := Go.Joins.ownsRow_le (owns_same hv fun g hg => ho g (hne (by decide) hv g hg)) (Nat.zero_le _)
    safe := owns_same h.safe fun g hg => ho g (hne (by decide) h.safe g hg)
    chg := owns_same h.chg fun g hg => ho g (hne (by decide) h.chg g hg)
    files := fun i hi => by
      rw [ho _ (fun e => by have := h.files i hi; rw [e, h.blk] at this; injection this with this; injection this with _ this _; exact absurd this (by decide))]
      exact h.files i hi
    inj := h.inj
    oB := Or.inl h.oB
    on := fun b hb => Or.inr hb
    ok := fun b hb => Or.inl (h.ok b hb)
    oc := fun b hb => Or.inl (h.oc b hb)
    ofl := fun i hi => Or.inl (h.ofl i hi)
    lt := fun k hk => by
      rw [hs]
      rcases hk with hk | hk
      · exact h.lt k hk
      · exact (World.ownsRow.lt hv k hk).2 }
/-- blocks of different kinds are different -/
theorem kind_ne {w : World} {a b : Nat} {c d : Array Value} {t u : TypeId} {f g : Nat × Nat} (h : w.heap[a]? = some (.cells c t f)) (k : w.heap[b]? = some (.cells d u g)) (hn : t ≠ u) : a ≠ b := by
  intro e
  subst e
  rw [h] at k
  injection k with k
  injection k with _ k _
  exact hn k
theorem row_ne {w : World} {a bs : Nat} {c : Array Value} {t u : TypeId} {f : Nat × Nat} {sz n : Nat} {v : Value} {xs : List Value} (h : w.heap[a]? = some (.cells c t f)) (k : w.ownsRow bs u sz v n xs) (hn : t ≠ u) : ∀ g, v.ownBlock = some g → a ≠ g := by
  intro g hg
  obtain ⟨d, fz, hd⟩ := Go.Lib.ownsRow_kind k g hg
  exact kind_ne h hd hn
theorem rows_ne {w : World} {bs bt : Nat} {t u : TypeId} {sz n sy m : Nat} {v x : Value} {xs ys : List Value} (h : w.ownsRow bs t sz v n xs) (k : w.ownsRow bt u sy x m ys) (hn : t ≠ u) : ∀ a b, v.ownBlock = some a → x.ownBlock = some b → a ≠ b := by
  intro a b ha hb
  obtain ⟨d, fz, hd⟩ := Go.Lib.ownsRow_kind h a ha
  exact row_ne hd k hn b hb
theorem XRep.setChg {w w2 : World} {O : Nat → Prop} {B : Nat} {fb : Nat → Nat} {vn vk vc v' : Value} {S : St} {base : Nat} {C : List Chg} (h : XRep w O B fb vn vk vc S) (hg : w.grownBy w2 vc.ownBlock) (hv : w2.ownsRow base 125 3 v' C.length (flatC fb C)) :
    XRep (w2.setCell ⟨B, 2, none⟩ v') (fun k => O k ∨ v'.ownBlock = some k) B fb vn vk v' { S with chg := C } := by
  have old : ∀ k, O k → some k ≠ vc.ownBlock → w2.heap[k]? = w.heap[k]? := fun k hk hn => hg.block k (h.lt k hk) hn
  have b2 : w2.heap[B]? = some (.cells #[vn, vk, vc, .int .i64 S.left, .int .i64 S.room] 92 (0, 0)) := by
    rw [old B h.oB (fun e => row_ne h.blk h.chg (by decide) B e.symm rfl)]; exact h.blk
  have nm2 : OutE w2 0 vn (S.names.map (toE fb)) := owns_same h.names fun g hg' => old g (h.on g hg') (fun e => rows_ne h.names h.chg (by decide) g g hg' e.symm rfl)
  have sf2 : OutE w2 0 vk (S.safe.map (toE fb)) := owns_same h.safe fun g hg' => old g (h.ok g hg') (fun e => rows_ne h.safe h.chg (by decide) g g hg' e.symm rfl)
  have fl2 : ∀ i, i < S.now.length → w2.heap[fb i]? = some (.cells (file S i) 122 (0, 0)) := fun i hi => by
    rw [old _ (h.ofl i hi) (fun e => row_ne (h.files i hi) h.chg (by decide) _ e.symm rfl)]; exact h.files i hi
  have hs : (w2.setCell ⟨B, 2, none⟩ v').heap.size = w2.heap.size := by simp
  have ho : ∀ k, k ≠ B → (w2.setCell ⟨B, 2, none⟩ v').heap[k]? = w2.heap[k]? := fun k hk => Below.heap_setCell w2 ⟨B, 2, none⟩ v' k hk
  exact {
    blk := by rw [heap_set w2 B 2 v' _ _ _ b2]; rfl
    names := owns_same nm2 fun g hg => ho g (fun e => row_ne b2 nm2 (by decide) g hg e.symm)
    safe := owns_same sf2 fun g hg => ho g (fun e => row_ne b2 sf2 (by decide) g hg e.symm)
    chg := Go.Joins.ownsRow_le (owns_same hv fun g hg => ho g (fun e => row_ne b2 hv (by decide) g hg e.symm)) (Nat.zero_le _)
    files := fun i hi => by rw [ho _ (fun e => kind_ne (fl2 i hi) b2 (by decide) e)]; exact fl2 i hi
    inj := h.inj
    oB := Or.inl h.oB
    on := fun b hb => Or.inl (h.on b hb)
    ok := fun b hb => Or.inl (h.ok b hb)
    oc := fun b hb => Or.inr hb
    ofl := fun i hi => Or.inl (h.ofl i hi)
    lt := fun k hk => by
      rw [hs]
      rcases hk with hk | hk
      · exact Nat.lt_of_lt_of_le (h.lt k hk) hg.size
      · exact (World.ownsRow.lt hv k hk).2 }
theorem kept_blk {w w2 : World} {O : Nat → Prop} {B : Nat} {fb : Nat → Nat} {vn vk vc : Value} {S : St} (h : XRep w O B fb vn vk vc S) (hg : w.grownBy w2 vc.ownBlock) : w2.heap[B]? = some (.cells #[vn, vk, vc, .int .i64 S.left, .int .i64 S.room] 92 (0, 0)) := by
  rw [hg.block B (h.lt B h.oB) (fun e => row_ne h.blk h.chg (by decide) B e.symm rfl)]; exact h.blk
theorem fr_chg {V w2 : World} {o : Obj} {O : Nat → Prop} {B g2 H : Nat} {n c : Nat} {vc : Value} (hB : O B) (hvc : Mine O vc) (hg : ((V.alloc o).drew).grownBy w2 vc.ownBlock) (hat : vc.ownBlock = some g2 ∨ g2 = H) (hH : V.heap.size ≤ H) (v' : Value) :
    Fr O (fun k => O k ∨ (Value.slice (some ⟨g2, 0, none⟩) n c).ownBlock = some k) V (w2.setCell ⟨B, 2, none⟩ v') := by
  have hs : (V.alloc o).drew.heap.size = V.heap.size + 1 := by show (V.alloc o).heap.size = _; simp
  refine ⟨hg.os, hg.tape, hg.output, ?_, ?_, ?_⟩
  · have := hg.size
    rw [hs] at this
    simp; omega
  · intro k hk hO
    rw [Below.heap_setCell w2 ⟨B, 2, none⟩ v' k (fun e => hO (by rw [e]; exact hB)), hg.block k (by rw [hs]; omega) (fun e => hO (hvc k e.symm))]
    exact Below.heap_alloc V o k hk
  · intro k hk
    rcases hk with hk | hk
    · exact Or.inl hk
    · have e : g2 = k := by simpa [Value.ownBlock] using hk
      subst e
      rcases hat with h | h
      · exact Or.inl (hvc _ h)
      · exact Or.inr (by omega)
theorem slice_of {w : World} {bs : Nat} {t : TypeId} {sz n : Nat} {v : Value} {xs : List Value} (h : w.ownsRow bs t sz v n xs) : ∃ a l c, v = .slice a l c := by
  rcases Go.Joins.ownsRow_forms h with ⟨rfl, _⟩ | ⟨g, cap, rfl⟩
  · exact ⟨_, _, _, rfl⟩
  · exact ⟨_, _, _, rfl⟩
theorem XRep.drew {w : World} {O : Nat → Prop} {B : Nat} {fb : Nat → Nat} {vn vk vc : Value} {S : St} (h : XRep w O B fb vn vk vc S) : XRep w.drew O B fb vn vk vc S := h.same (Nat.le_refl _) fun _ _ => rfl
set_option maxHeartbeats 4000000 in
set_option maxRecDepth 100000 in
theorem xturn_any (O : Nat → Prop) (B : Nat) (fb : Nat → Nat) (vn vk vc : Value) (S : St) (m : Nat) (g n : ByteArray) (o : Option Nat) (w : World) (h : XRep w O B fb vn vk vc S) (k : S.Ok m) (hm : m < 2199023255552) :
    Calls Try.prog 123 #[.pointer (some ⟨B, 0, none⟩), .agg #[.string g, .string n, .pointer (ptrE fb o)]] w fun e w' => ∃ O' vn' vc', e = .returned (.tuple #[]) ∧ XRep w' O' B fb vn' vk vc' { S with names := turnN S.names (g, n, o), chg := S.chg ++ [(g, n, o)] } ∧ Fr O O' w w' := by
  obtain ⟨ca, cn, cc, rfl⟩ := slice_of h.chg
  obtain ⟨i0, hi, hz0, hz1, hz2⟩ := info_parts Try.infoC
  have INF : Hid _ := And.intro hi (And.intro hz0 (And.intro hz1 hz2))
  clear hi hz0 hz1 hz2
  obtain ⟨W, hW⟩ : ∃ W, w.alloc (.cells #[.string g, .string n, .pointer (ptrE fb o)] 125) = W := ⟨_, rfl⟩
  have BE : Below w.heap.size w W := by rw [← hW]; exact (Below.refl _ _).alloc (Nat.le_refl _) _
  have b0 : W.heap[w.heap.size]? = some (.cells #[.string g, .string n, .pointer (ptrE fb o)] 125 (0, 0)) := by rw [← hW]; exact heap_alloc_new w _
  have WS : Hid (W.heap.size = w.heap.size + 1) := by show _ = _; rw [← hW]; simp
  have HB : Hid (Below w.heap.size w W) := BE
  have X1 := h.below BE
  have HX : Hid (XRep W O B fb vn vk (.slice ca cn cc) S) := X1
  have B0 : Hid _ := b0
  have ENT : Hid (Ents W.drew vn (S.names.map (toE fb))) := ents_of X1.drew.names (by have := k.ln; simp; omega)
  have LEN : Hid ((S.names.map (toE fb)).length < 4398046511103) := by show _ < _; have := k.ln; simp; omega
  have n0 : W.cell? ⟨B, 0, none⟩ = some vn := cell_in X1.blk 0 _ rfl
  have x0 : W.cell? ⟨w.heap.size, 0, none⟩ = some (.string g) := cell_in b0 0 _ rfl
  have x1 : W.cell? ⟨w.heap.size, 1, none⟩ = some (.string n) := cell_in b0 1 _ rfl
  have x2 : W.cell? ⟨w.heap.size, 2, none⟩ = some (.pointer (ptrE fb o)) := cell_in b0 2 _ rfl
  have HW : Hid _ := hW
  obtain ⟨p, hp⟩ : ∃ p, p = ptrE fb o := ⟨_, rfl⟩
  have BL : Hid (B < W.heap.size) := X1.lt B X1.oB
  rw [← hp] at x2 ⊢
  have HP : Hid _ := hp
  clear BE b0 X1 hW hp
  go_enter Try.func123, Try.ntmps123
  go_upto_region 1 with fail
  rw [HP.out, HW.out, ← HP.out]
  go_region_with (first
    | (go_at_call 131; refine (changed_any vn (S.names.map (toE fb)) g n p W.drew ENT.out LEN.out).mono ?_; rintro e w1 ⟨v', l', rfl, ho, hb, hpp, hs⟩
       obtain ⟨sa, sl, sc, rfl⟩ := slice_of ho
       have n1 : w1.cell? ⟨B, 0, none⟩ = some vn := (hb.cell (p := ⟨B, 0, none⟩) BL.out).trans n0
       have f1 : w1.frozen? ⟨B, 0, none⟩ = false := (hb.frozen (p := ⟨B, 0, none⟩) BL.out).trans (unfrozen_in HX.out.blk 0)
       have HO : Hid (OutE w1 (W.heap.size + 1) (.slice sa sl sc) l') := ho
       have HB1 : Hid (Below W.heap.size W.drew w1) := hb
       have HPP : Hid _ := hpp
       have HS : Hid _ := hs
       clear ho hb hpp hs))
  all_goals
    obtain ⟨V, hV⟩ : ∃ V, w1.setCell ⟨B, 0, none⟩ (.slice sa sl sc) = V := ⟨_, rfl⟩
    have X2 : XRep w1 O B fb vn vk (.slice ca cn cc) S := HX.out.drew.below HB1.out
    have hlo : ∀ q, O q → q < w.heap.size := h.lt
    have el : l' = (turnN S.names (g, n, o)).map (toE fb) := changed_eq fb S.names k.rise (g, n, o) l' (by have := HPP.out; rw [HP.out] at this; exact this) HS.out
    have X3 : XRep V (fun q => O q ∨ (Value.slice sa sl sc).ownBlock = some q) B fb (.slice sa sl sc) vk (.slice ca cn cc) { S with names := turnN S.names (g, n, o) } := by
      rw [← hV]
      refine X2.setNames (base := W.heap.size + 1) (by rw [← el]; exact HO.out) ?_
      intro q hq hO
      have h1 := (World.ownsRow.lt HO.out q hq).1
      have h2 := hlo q hO
      have h3 := WS.out
      omega
    have FV : Fr O (fun q => O q ∨ (Value.slice sa sl sc).ownBlock = some q) w V := by
      have f1 : Fr O O w w1 := (Fr.below HB.out).trans (⟨HB1.out.os, HB1.out.tape, HB1.out.output, HB1.out.size, fun q hq _ => HB1.out.block q hq, fun _ h => Or.inl h⟩ : Fr O O W w1)
      refine ⟨by rw [← hV]; exact f1.os, by rw [← hV]; exact f1.tape, by rw [← hV]; exact f1.output, by rw [← hV]; simpa using f1.size, ?_, ?_⟩
      · intro q hq hO
        rw [← hV, Below.heap_setCell w1 ⟨B, 0, none⟩ _ q (fun e => hO (by rw [e]; exact h.oB))]
        exact f1.block q hq hO
      · intro q hq
        rcases hq with hq | hq
        · exact Or.inl hq
        · have h1 := (World.ownsRow.lt HO.out q hq).1
          have h3 := WS.out
          exact Or.inr (by omega)
    have bx : V.heap[w.heap.size]? = some (.cells #[.string g, .string n, .pointer p] 125 (0, 0)) := by
      rw [← hV, Below.heap_setCell w1 ⟨B, 0, none⟩ _ _ (fun e => by have := hlo B h.oB; simp at e; omega), HB1.out.block _ (by rw [WS.out]; omega)]
      rw [HP.out]; exact B0.out
    have y0 : V.cell? ⟨w.heap.size, 0, none⟩ = some (.string g) := cell_in bx 0 _ rfl
    have y1 : V.cell? ⟨w.heap.size, 1, none⟩ = some (.string n) := cell_in bx 1 _ rfl
    have y2 : V.cell? ⟨w.heap.size, 2, none⟩ = some (.pointer p) := cell_in bx 2 _ rfl
    have cB : V.cell? ⟨B, 2, none⟩ = some (.slice ca cn cc) := cell_in X3.blk 2 _ rfl
    have cB2 : (V.alloc (.cells #[.string g, .string n, .pointer p] 125)).cell? ⟨B, 2, none⟩ = some (.slice ca cn cc) := (World.cell?_alloc_lt _ _ _ (X3.lt B X3.oB)).trans cB
    have HX3 : Hid (XRep V (fun q => O q ∨ (Value.slice sa sl sc).ownBlock = some q) B fb (.slice sa sl sc) vk (.slice ca cn cc) { S with names := turnN S.names (g, n, o) }) := X3
    have HFV : Hid (Fr O (fun q => O q ∨ (Value.slice sa sl sc).ownBlock = some q) w V) := FV
    have X4 : XRep (V.alloc (.cells #[.string g, .string n, .pointer p] 125)).drew (fun q => O q ∨ (Value.slice sa sl sc).ownBlock = some q) B fb (.slice sa sl sc) vk (.slice ca cn cc) { S with names := turnN S.names (g, n, o) } := (X3.below ((Below.refl _ _).alloc (Nat.le_refl _) _)).drew
    have HX4 : Hid (XRep (V.alloc (.cells #[.string g, .string n, .pointer p] 125)).drew (fun q => O q ∨ (Value.slice sa sl sc).ownBlock = some q) B fb (.slice sa sl sc) vk (.slice ca cn cc) { S with names := turnN S.names (g, n, o) }) := X4
    have OC : Hid ((V.alloc (.cells #[.string g, .string n, .pointer p] 125)).drew.ownsRow 0 125 3 (.slice ca cn cc) S.chg.length (flatC fb S.chg)) := X4.chg
    have c3 : Hid (S.chg.length + 1 ≤ maxLen) := by show _ ≤ _; have := k.ls; unfold maxLen; omega
    have c4 : Hid ((S.chg.length + 1) * 40 ≤ 140737488355328) := by show _ ≤ _; have := k.ls; omega
    rw [hV]
    clear X2 X3 X4 FV el bx n1 f1 HO HB1 HPP HS hV n0 x0 x1 x2
    go_wp2_with fail
    go_region_law (first
      | (refine step_append_lies _ rfl _ _ 90 rfl 0 125 i0 _ 3 40 Try.underlying90 INF.out.1 INF.out.2.1 INF.out.2.2.1 INF.out.2.2.2 rfl (by decide) _ _ _ rfl OC.out ⟨V.heap.size, 0, none⟩ 1 1 [.string g, .string n, .pointer p] rfl rfl (three_news _ _ rfl _ _ _) (three_one _ _ _) (by decide) c3.out c4.out (Nat.zero_le _) _ rfl ?_
         intro g2 cap2 w2 hown hgrow hat hlt2
         have X5 := HX4.out.setChg (C := S.chg ++ [(g, n, o)]) hgrow (by rw [List.length_append, ← flatC_snoc, ← HP.out]; exact hown)
         have b2 := kept_blk HX4.out hgrow
         have z1 : w2.cell? ⟨B, 2, none⟩ = some (.slice ca cn cc) := cell_in b2 2 _ rfl
         have z2 : w2.frozen? ⟨B, 2, none⟩ = false := unfrozen_in b2 2
         have HX5 : Hid _ := X5
         have HG : Hid _ := hgrow
         have HAT : Hid _ := hat
         have HLT : Hid _ := hlt2
         have HOW : Hid _ := hown
         clear X5 b2 hgrow hat hlt2 hown))
    all_goals go_wp2
    all_goals go_end0
    all_goals exact ⟨rfl, _, ⟨_, _, HX5.out⟩, HFV.out.trans (fr_chg HX3.out.oB HX3.out.oc HG.out HAT.out (by simp) _)⟩
end Go.Proofs.Ytnkgfoabadjboaa
