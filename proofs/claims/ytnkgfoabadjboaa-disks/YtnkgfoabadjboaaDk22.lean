/-
  One more change of names, by the document. Conditions: the disk stands for a plain state; fewer than 2^41 entries.
-/
import Derived.Test.YtnkgfoabadjboaaDk21
namespace Go.Proofs.Ytnkgfoabadjboaa
open Go.RowKit
set_option linter.unusedVariables false
set_option linter.unusedSimpArgs false
theorem RRep.setNames {w : World} {O : Nat → Prop} {D : Nat} {vN vK vn vs vc v' : Value} {S : St} {base : Nat} {L : List Ent} (h : RRep w O D vN vK vn vs vc S) (hv : OutR w base v' L) :
    RRep (w.setCell ⟨D, 2, none⟩ v') (fun k => O k ∨ v'.ownBlock = some k) D vN vK v' vs vc { S with names := L } := by
  have ho : ∀ k, k ≠ D → (w.setCell ⟨D, 2, none⟩ v').heap[k]? = w.heap[k]? := fun k hk => Below.heap_setCell w ⟨D, 2, none⟩ v' k hk
  exact {
    blk := by rw [heap_set w D 2 v' _ _ _ h.blk]; rfl
    now := owns_same h.now fun g hg => ho g (fun e => row_ne h.blk h.now (by decide) g hg e.symm)
    kept := owns_same h.kept fun g hg => ho g (fun e => row_ne h.blk h.kept (by decide) g hg e.symm)
    names := Go.Joins.ownsRow_le (owns_same hv fun g hg => ho g (fun e => row_ne h.blk hv (by decide) g hg e.symm)) (Nat.zero_le _)
    safe := owns_same h.safe fun g hg => ho g (fun e => row_ne h.blk h.safe (by decide) g hg e.symm)
    chg := owns_same h.chg fun g hg => ho g (fun e => row_ne h.blk h.chg (by decide) g hg e.symm)
    nk := h.nk
    oD := Or.inl h.oD
    oN := fun b hb => Or.inl (h.oN b hb)
    oK := fun b hb => Or.inl (h.oK b hb)
    on := fun b hb => Or.inr hb
    os := fun b hb => Or.inl (h.os b hb)
    oc := fun b hb => Or.inl (h.oc b hb)
    lt := fun k hk => by
      have hs : (w.setCell ⟨D, 2, none⟩ v').heap.size = w.heap.size := by simp
      rw [hs]
      rcases hk with hk | hk
      · exact h.lt k hk
      · exact (World.ownsRow.lt hv k hk).2 }
theorem rkept_blk {w w2 : World} {O : Nat → Prop} {D : Nat} {vN vK vn vs vc : Value} {S : St} (h : RRep w O D vN vK vn vs vc S) (hg : w.grownBy w2 vc.ownBlock) : w2.heap[D]? = some (.cells #[vN, vK, vn, vs, vc, .int .i64 S.left, .int .i64 S.room] 97 (0, 0)) := by
  rw [hg.block D (h.lt D h.oD) (fun e => row_ne h.blk h.chg (by decide) D e.symm rfl)]; exact h.blk
theorem RRep.setChg {w w2 : World} {O : Nat → Prop} {D : Nat} {vN vK vn vs vc v' : Value} {S : St} {base : Nat} {C : List Chg} (h : RRep w O D vN vK vn vs vc S) (hg : w.grownBy w2 vc.ownBlock) (hv : w2.ownsRow base 131 3 v' C.length (flatD C)) :
    RRep (w2.setCell ⟨D, 4, none⟩ v') (fun k => O k ∨ v'.ownBlock = some k) D vN vK vn vs v' { S with chg := C } := by
  have old : ∀ k, O k → some k ≠ vc.ownBlock → w2.heap[k]? = w.heap[k]? := fun k hk hn => hg.block k (h.lt k hk) hn
  have b2 := rkept_blk h hg
  have k1 : OutS w2 0 vN S.now := owns_same h.now fun g hg' => old g (h.oN g hg') (fun e => rows_ne h.now h.chg (by decide) g g hg' e.symm rfl)
  have k2 : OutS w2 0 vK S.kept := owns_same h.kept fun g hg' => old g (h.oK g hg') (fun e => rows_ne h.kept h.chg (by decide) g g hg' e.symm rfl)
  have k3 : OutR w2 0 vn S.names := owns_same h.names fun g hg' => old g (h.on g hg') (fun e => rows_ne h.names h.chg (by decide) g g hg' e.symm rfl)
  have k4 : OutR w2 0 vs S.safe := owns_same h.safe fun g hg' => old g (h.os g hg') (fun e => rows_ne h.safe h.chg (by decide) g g hg' e.symm rfl)
  have ho : ∀ k, k ≠ D → (w2.setCell ⟨D, 4, none⟩ v').heap[k]? = w2.heap[k]? := fun k hk => Below.heap_setCell w2 ⟨D, 4, none⟩ v' k hk
  exact {
    blk := by rw [heap_set w2 D 4 v' _ _ _ b2]; rfl
    now := owns_same k1 fun g hg => ho g (fun e => row_ne b2 k1 (by decide) g hg e.symm)
    kept := owns_same k2 fun g hg => ho g (fun e => row_ne b2 k2 (by decide) g hg e.symm)
    names := owns_same k3 fun g hg => ho g (fun e => row_ne b2 k3 (by decide) g hg e.symm)
    safe := owns_same k4 fun g hg => ho g (fun e => row_ne b2 k4 (by decide) g hg e.symm)
    chg := Go.Joins.ownsRow_le (owns_same hv fun g hg => ho g (fun e => row_ne b2 hv (by decide) g hg e.symm)) (Nat.zero_le _)
    nk := h.nk
    oD := Or.inl h.oD
    oN := fun b hb => Or.inl (h.oN b hb)
    oK := fun b hb => Or.inl (h.oK b hb)
    on := fun b hb => Or.inl (h.on b hb)
    os := fun b hb => Or.inl (h.os b hb)
    oc := fun b hb => Or.inr hb
    lt := fun k hk => by
      have hs : (w2.setCell ⟨D, 4, none⟩ v').heap.size = w2.heap.size := by simp
      rw [hs]
      rcases hk with hk | hk
      · exact Nat.lt_of_lt_of_le (h.lt k hk) hg.size
      · exact (World.ownsRow.lt hv k hk).2 }
theorem fr_chgR {V w2 : World} {o : Obj} {O : Nat → Prop} {B g2 H : Nat} {n c : Nat} {vc : Value} (hB : O B) (hvc : Mine O vc) (hg : ((V.alloc o).drew).grownBy w2 vc.ownBlock) (hat : vc.ownBlock = some g2 ∨ g2 = H) (hH : V.heap.size ≤ H) (v' : Value) :
    Fr O (fun k => O k ∨ (Value.slice (some ⟨g2, 0, none⟩) n c).ownBlock = some k) V (w2.setCell ⟨B, 4, none⟩ v') := by
  have hs : (V.alloc o).drew.heap.size = V.heap.size + 1 := by show (V.alloc o).heap.size = _; simp
  refine ⟨hg.os, hg.tape, hg.output, ?_, ?_, ?_⟩
  · have := hg.size
    rw [hs] at this
    simp; omega
  · intro k hk hO
    rw [Below.heap_setCell w2 ⟨B, 4, none⟩ v' k (fun e => hO (by rw [e]; exact hB)), hg.block k (by rw [hs]; omega) (fun e => hO (hvc k e.symm))]
    exact Below.heap_alloc V o k hk
  · intro k hk
    rcases hk with hk | hk
    · exact Or.inl hk
    · have e : g2 = k := by simpa [Value.ownBlock] using hk
      subst e
      rcases hat with h | h
      · exact Or.inl (hvc _ h)
      · exact Or.inr (by omega)
theorem Try.infoD : (Try.prog.info? 131).map (fun i => (i.zero, i.size, i.bytes)) = some (some (.agg #[.string ByteArray.empty, .string ByteArray.empty, .int .i64 0]), 3, 40) := by kernel_rfl
theorem dnews (w : World) (b : Nat) (hb : b = w.heap.size) (s t : ByteArray) (p : Int) : ∀ j u, [Value.string s, Value.string t, Value.int IntKind.i64 p][j]? = some u → (w.alloc (.cells #[.string s, .string t, .int .i64 p] 131)).cell? ((⟨b, 0, none⟩ : Addr).add j) = some u := by
  subst hb
  intro j u hu
  have e : (⟨w.heap.size, 0, none⟩ : Addr).add j = ⟨w.heap.size, j, none⟩ := by unfold Addr.add; split <;> simp_all
  rw [e, World.cell?_alloc_mark]
  simpa using hu
theorem done (s t : ByteArray) (p : Int) : ∀ u ∈ [Value.string s, Value.string t, Value.int IntKind.i64 p], u.oneCell' = true := by
  intro u hu
  simp at hu
  rcases hu with rfl | rfl | rfl <;> rfl
set_option maxHeartbeats 4000000 in
set_option maxRecDepth 100000 in
theorem rturn_any (O : Nat → Prop) (D : Nat) (vN vK vn vs vc : Value) (S : St) (m : Nat) (g n : ByteArray) (o : Option Nat) (w : World) (h : RRep w O D vN vK vn vs vc S) (k : S.Ok m) (hm : m < 2199023255552) :
    Calls Try.prog 127 #[.pointer (some ⟨D, 0, none⟩), .agg #[.string g, .string n, .int .i64 (fileI o)]] w fun e w' => ∃ O' vn' vc', e = .returned (.tuple #[]) ∧ RRep w' O' D vN vK vn' vs vc' (chgS S (g, n, o)) ∧ Fr O O' w w' := by
  obtain ⟨ca, cn, cc, rfl⟩ := slice_of h.chg
  obtain ⟨i0, hi, hz0, hz1, hz2⟩ := info_parts Try.infoD
  have INF : Hid _ := And.intro hi (And.intro hz0 (And.intro hz1 hz2))
  clear hi hz0 hz1 hz2
  obtain ⟨p, hp⟩ : ∃ p, p = fileI o := ⟨_, rfl⟩
  have HP : Hid _ := hp
  rw [← hp]
  obtain ⟨W, hW⟩ : ∃ W, w.alloc (.cells #[.string g, .string n, .int .i64 p] 131) = W := ⟨_, rfl⟩
  have BE : Below w.heap.size w W := by rw [← hW]; exact (Below.refl _ _).alloc (Nat.le_refl _) _
  have b0 : W.heap[w.heap.size]? = some (.cells #[.string g, .string n, .int .i64 p] 131 (0, 0)) := by rw [← hW]; exact heap_alloc_new w _
  have WS : Hid (W.heap.size = w.heap.size + 1) := by show _ = _; rw [← hW]; simp
  have HB : Hid (Below w.heap.size w W) := BE
  have X1 := h.below BE
  have HX : Hid (RRep W O D vN vK vn vs (.slice ca cn cc) S) := X1
  have B0 : Hid _ := b0
  have TU : Hid (Calls Try.prog 133 #[vn, .agg #[.string g, .string n, .int .i64 p]] W.drew fun e w' => ∃ v', e = .returned v' ∧ OutR w' (W.heap.size + 1) v' (turnN S.names (g, n, o)) ∧ Below W.heap.size W.drew w') := by rw [hp]; exact turned_any2 vn S.names g n o W.drew X1.drew.names (by have := k.ln; omega)
  have n0 : W.cell? ⟨D, 2, none⟩ = some vn := cell_in X1.blk 2 _ rfl
  have x0 : W.cell? ⟨w.heap.size, 0, none⟩ = some (.string g) := cell_in b0 0 _ rfl
  have x1 : W.cell? ⟨w.heap.size, 1, none⟩ = some (.string n) := cell_in b0 1 _ rfl
  have x2 : W.cell? ⟨w.heap.size, 2, none⟩ = some (.int .i64 p) := cell_in b0 2 _ rfl
  have HW : Hid _ := hW
  have BL : Hid (D < W.heap.size) := X1.lt D X1.oD
  clear BE b0 X1 hW hp
  go_enter Try.func127, Try.ntmps127
  go_upto_region 1 with fail
  rw [HW.out]
  go_region_with (first
    | (go_at_call 133; refine Calls.mono TU.out ?_; rintro e w1 ⟨v', rfl, ho, hb⟩
       obtain ⟨sa, sl, sc, rfl⟩ := slice_of ho
       have n1 : w1.cell? ⟨D, 2, none⟩ = some vn := (hb.cell (p := ⟨D, 2, none⟩) BL.out).trans n0
       have f1 : w1.frozen? ⟨D, 2, none⟩ = false := (hb.frozen (p := ⟨D, 2, none⟩) BL.out).trans (unfrozen_in HX.out.blk 2)
       have HO : Hid (OutR w1 (W.heap.size + 1) (.slice sa sl sc) (turnN S.names (g, n, o))) := ho
       have HB1 : Hid (Below W.heap.size W.drew w1) := hb
       clear ho hb))
  all_goals
    obtain ⟨V, hV⟩ : ∃ V, w1.setCell ⟨D, 2, none⟩ (.slice sa sl sc) = V := ⟨_, rfl⟩
    have X2 : RRep w1 O D vN vK vn vs (.slice ca cn cc) S := HX.out.drew.below HB1.out
    have hlo : ∀ q, O q → q < w.heap.size := h.lt
    have X3 : RRep V (fun q => O q ∨ (Value.slice sa sl sc).ownBlock = some q) D vN vK (.slice sa sl sc) vs (.slice ca cn cc) { S with names := turnN S.names (g, n, o) } := by
      rw [← hV]
      exact X2.setNames (base := W.heap.size + 1) HO.out
    have FV : Fr O (fun q => O q ∨ (Value.slice sa sl sc).ownBlock = some q) w V := by
      have f1 : Fr O O w w1 := (Fr.below HB.out).trans (⟨HB1.out.os, HB1.out.tape, HB1.out.output, HB1.out.size, fun q hq _ => HB1.out.block q hq, fun _ h => Or.inl h⟩ : Fr O O W w1)
      refine ⟨by rw [← hV]; exact f1.os, by rw [← hV]; exact f1.tape, by rw [← hV]; exact f1.output, by rw [← hV]; simpa using f1.size, ?_, ?_⟩
      · intro q hq hO
        rw [← hV, Below.heap_setCell w1 ⟨D, 2, none⟩ _ q (fun e => hO (by rw [e]; exact h.oD))]
        exact f1.block q hq hO
      · intro q hq
        rcases hq with hq | hq
        · exact Or.inl hq
        · have h1 := (World.ownsRow.lt HO.out q hq).1
          have h3 := WS.out
          exact Or.inr (by omega)
    have bx : V.heap[w.heap.size]? = some (.cells #[.string g, .string n, .int .i64 p] 131 (0, 0)) := by
      rw [← hV, Below.heap_setCell w1 ⟨D, 2, none⟩ _ _ (fun e => by have := hlo D h.oD; simp at e; omega), HB1.out.block _ (by rw [WS.out]; omega)]
      exact B0.out
    have y0 : V.cell? ⟨w.heap.size, 0, none⟩ = some (.string g) := cell_in bx 0 _ rfl
    have y1 : V.cell? ⟨w.heap.size, 1, none⟩ = some (.string n) := cell_in bx 1 _ rfl
    have y2 : V.cell? ⟨w.heap.size, 2, none⟩ = some (.int .i64 p) := cell_in bx 2 _ rfl
    have cB : V.cell? ⟨D, 4, none⟩ = some (.slice ca cn cc) := cell_in X3.blk 4 _ rfl
    have cB2 : (V.alloc (.cells #[.string g, .string n, .int .i64 p] 131)).cell? ⟨D, 4, none⟩ = some (.slice ca cn cc) := (World.cell?_alloc_lt _ _ _ (X3.lt D X3.oD)).trans cB
    have HX3 : Hid (RRep V (fun q => O q ∨ (Value.slice sa sl sc).ownBlock = some q) D vN vK (.slice sa sl sc) vs (.slice ca cn cc) { S with names := turnN S.names (g, n, o) }) := X3
    have HFV : Hid (Fr O (fun q => O q ∨ (Value.slice sa sl sc).ownBlock = some q) w V) := FV
    have X4 : RRep (V.alloc (.cells #[.string g, .string n, .int .i64 p] 131)).drew (fun q => O q ∨ (Value.slice sa sl sc).ownBlock = some q) D vN vK (.slice sa sl sc) vs (.slice ca cn cc) { S with names := turnN S.names (g, n, o) } := (X3.below ((Below.refl _ _).alloc (Nat.le_refl _) _)).drew
    have HX4 : Hid (RRep (V.alloc (.cells #[.string g, .string n, .int .i64 p] 131)).drew (fun q => O q ∨ (Value.slice sa sl sc).ownBlock = some q) D vN vK (.slice sa sl sc) vs (.slice ca cn cc) { S with names := turnN S.names (g, n, o) }) := X4
    have OC : Hid ((V.alloc (.cells #[.string g, .string n, .int .i64 p] 131)).drew.ownsRow 0 131 3 (.slice ca cn cc) S.chg.length (flatD S.chg)) := X4.chg
    have c3 : Hid (S.chg.length + 1 ≤ maxLen) := by show _ ≤ _; have := k.ls; unfold maxLen; omega
    have c4 : Hid ((S.chg.length + 1) * 40 ≤ 140737488355328) := by show _ ≤ _; have := k.ls; omega
    rw [hV]
    clear X2 X3 X4 FV bx n1 f1 HO HB1 hV n0 x0 x1 x2
    go_wp2_with fail
    go_region_law (first
      | (refine step_append_lies _ rfl _ _ 95 rfl 0 131 i0 _ 3 40 Try.underlying95 INF.out.1 INF.out.2.1 INF.out.2.2.1 INF.out.2.2.2 rfl (by decide) _ _ _ rfl OC.out ⟨V.heap.size, 0, none⟩ 1 1 [.string g, .string n, .int .i64 p] rfl rfl (dnews _ _ rfl _ _ _) (done _ _ _) (by decide) c3.out c4.out (Nat.zero_le _) _ rfl ?_
         intro g2 cap2 w2 hown hgrow hat hlt2
         have X5 := HX4.out.setChg (C := S.chg ++ [(g, n, o)]) hgrow (by rw [List.length_append, ← flatD_snoc, ← HP.out]; exact hown)
         have b2 := rkept_blk HX4.out hgrow
         have z1 : w2.cell? ⟨D, 4, none⟩ = some (.slice ca cn cc) := cell_in b2 4 _ rfl
         have z2 : w2.frozen? ⟨D, 4, none⟩ = false := unfrozen_in b2 4
         have HX5 : Hid _ := X5
         have HG : Hid _ := hgrow
         have HAT : Hid _ := hat
         clear X5 b2 hgrow hat hlt2 hown))
    all_goals go_wp2
    all_goals go_end0
    all_goals first
      | exact ⟨rfl, _, ⟨_, _, HX5.out⟩, HFV.out.trans (fr_chgR HX3.out.oD HX3.out.oc HG.out HAT.out (by simp) _)⟩
      | exact ⟨_, _, _, rfl, HX5.out, HFV.out.trans (fr_chgR HX3.out.oD HX3.out.oc HG.out HAT.out (by simp) _)⟩
end Go.Proofs.Ytnkgfoabadjboaa
