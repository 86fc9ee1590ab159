/-
  Write, by the document. Conditions: the disk stands for a plain state; fewer than 2^41 entries; lengths are ints.
-/
import Derived.Test.YtnkgfoabadjboaaDk27
namespace Go.Proofs.Ytnkgfoabadjboaa
open Go.RowKit
set_option linter.unusedVariables false
set_option linter.unusedSimpArgs false

theorem fr_grow {V U w2 : World} {O : Nat → Prop} {B off g2 : Nat} {n c : Nat} {vc : Value} (hB : O B) (hvc : Mine O vc) (hb : Below V.heap.size V U) (hg : U.grownBy w2 vc.ownBlock) (hat : vc.ownBlock = some g2 ∨ V.heap.size ≤ g2) (v' : Value) :
    Fr O (fun k => O k ∨ (Value.slice (some ⟨g2, 0, none⟩) n c).ownBlock = some k) V (w2.setCell ⟨B, off, none⟩ v') := by
  have hs := hb.size
  refine ⟨hg.os.trans hb.os, hg.tape.trans hb.tape, hg.output.trans hb.output, ?_, ?_, ?_⟩
  · have := hg.size
    simp; omega
  · intro k hk hO
    rw [Below.heap_setCell w2 ⟨B, off, none⟩ v' k (fun e => hO (by rw [e]; exact hB)), hg.block k (by omega) (fun e => hO (hvc k e.symm))]
    exact hb.block k hk
  · intro k hk
    rcases hk with hk | hk
    · exact Or.inl hk
    · have e : g2 = k := by simpa [Value.ownBlock] using hk
      subst e
      rcases hat with h | h
      · exact Or.inl (hvc _ h)
      · exact Or.inr h
theorem rnow_blk {w w2 : World} {O : Nat → Prop} {D : Nat} {vN vK vn vs vc : Value} {S : St} (h : RRep w O D vN vK vn vs vc S) (hg : w.grownBy w2 vN.ownBlock) : w2.heap[D]? = some (.cells #[vN, vK, vn, vs, vc, .int .i64 S.left, .int .i64 S.room] 97 (0, 0)) := by
  rw [hg.block D (h.lt D h.oD) (fun e => row_ne h.blk h.now (by decide) D e.symm rfl)]; exact h.blk
theorem rkep_blk {w w2 : World} {O : Nat → Prop} {D : Nat} {vN vK vn vs vc : Value} {S : St} (h : RRep w O D vN vK vn vs vc S) (hg : w.grownBy w2 vK.ownBlock) : w2.heap[D]? = some (.cells #[vN, vK, vn, vs, vc, .int .i64 S.left, .int .i64 S.room] 97 (0, 0)) := by
  rw [hg.block D (h.lt D h.oD) (fun e => row_ne h.blk h.kept (by decide) D e.symm rfl)]; exact h.blk
/-- the row of the texts now has grown -/
theorem RRep.growNow {w w2 : World} {O : Nat → Prop} {D g' : Nat} {vN vK vn vs vc v' : Value} {S : St} {base : Nat} {L : List ByteArray} (h : RRep w O D vN vK vn vs vc S) (hg : w.grownBy w2 vN.ownBlock) (hv : w2.ownsRow base 9 1 v' L.length (strs9 L)) (hv' : v'.ownBlock = some g') (hat : vN.ownBlock = some g' ∨ w.heap.size ≤ g') :
    RRep (w2.setCell ⟨D, 0, none⟩ v') (fun k => O k ∨ v'.ownBlock = some k) D v' vK vn vs vc { S with now := L } := by
  have old : ∀ k, O k → some k ≠ vN.ownBlock → w2.heap[k]? = w.heap[k]? := fun k hk hn => hg.block k (h.lt k hk) hn
  have b2 := rnow_blk h hg
  have k2 : OutS w2 0 vK S.kept := owns_same h.kept fun g hg' => old g (h.oK g hg') (fun e => h.nk g e.symm hg')
  have k3 : OutR w2 0 vn S.names := owns_same h.names fun g hg' => old g (h.on g hg') (fun e => rows_ne h.names h.now (by decide) g g hg' e.symm rfl)
  have k4 : OutR w2 0 vs S.safe := owns_same h.safe fun g hg' => old g (h.os g hg') (fun e => rows_ne h.safe h.now (by decide) g g hg' e.symm rfl)
  have k5 : OutD w2 vc S.chg := owns_same h.chg fun g hg' => old g (h.oc g hg') (fun e => rows_ne h.chg h.now (by decide) g g hg' e.symm rfl)
  have ho : ∀ k, k ≠ D → (w2.setCell ⟨D, 0, none⟩ v').heap[k]? = w2.heap[k]? := fun k hk => Below.heap_setCell w2 ⟨D, 0, none⟩ v' k hk
  exact {
    blk := by rw [heap_set w2 D 0 v' _ _ _ b2]; rfl
    now := Go.Joins.ownsRow_le (owns_same hv fun g hg => ho g (fun e => row_ne b2 hv (by decide) g hg e.symm)) (Nat.zero_le _)
    kept := owns_same k2 fun g hg => ho g (fun e => row_ne b2 k2 (by decide) g hg e.symm)
    names := owns_same k3 fun g hg => ho g (fun e => row_ne b2 k3 (by decide) g hg e.symm)
    safe := owns_same k4 fun g hg => ho g (fun e => row_ne b2 k4 (by decide) g hg e.symm)
    chg := owns_same k5 fun g hg => ho g (fun e => row_ne b2 k5 (by decide) g hg e.symm)
    nk := fun a ha hb => by
      rw [hv'] at ha
      have e : g' = a := by simpa using ha
      subst e
      rcases hat with q | q
      · exact h.nk _ q hb
      · have := (World.ownsRow.lt h.kept _ hb).2
        omega
    oD := Or.inl h.oD
    oN := fun b hb => Or.inr hb
    oK := fun b hb => Or.inl (h.oK b hb)
    on := fun b hb => Or.inl (h.on b hb)
    os := fun b hb => Or.inl (h.os b hb)
    oc := fun b hb => Or.inl (h.oc b hb)
    lt := fun k hk => by
      have hs : (w2.setCell ⟨D, 0, none⟩ v').heap.size = w2.heap.size := by simp
      rw [hs]
      rcases hk with hk | hk
      · exact Nat.lt_of_lt_of_le (h.lt k hk) hg.size
      · exact (World.ownsRow.lt hv k hk).2 }
/-- the row of the kept texts has grown -/
theorem RRep.growKept {w w2 : World} {O : Nat → Prop} {D g' : Nat} {vN vK vn vs vc v' : Value} {S : St} {base : Nat} {L : List ByteArray} (h : RRep w O D vN vK vn vs vc S) (hg : w.grownBy w2 vK.ownBlock) (hv : w2.ownsRow base 9 1 v' L.length (strs9 L)) (hv' : v'.ownBlock = some g') (hat : vK.ownBlock = some g' ∨ w.heap.size ≤ g') :
    RRep (w2.setCell ⟨D, 1, none⟩ v') (fun k => O k ∨ v'.ownBlock = some k) D vN v' vn vs vc { S with kept := L } := by
  have old : ∀ k, O k → some k ≠ vK.ownBlock → w2.heap[k]? = w.heap[k]? := fun k hk hn => hg.block k (h.lt k hk) hn
  have b2 := rkep_blk h hg
  have k2 : OutS w2 0 vN S.now := owns_same h.now fun g hg' => old g (h.oN g hg') (fun e => h.nk g hg' e.symm)
  have k3 : OutR w2 0 vn S.names := owns_same h.names fun g hg' => old g (h.on g hg') (fun e => rows_ne h.names h.kept (by decide) g g hg' e.symm rfl)
  have k4 : OutR w2 0 vs S.safe := owns_same h.safe fun g hg' => old g (h.os g hg') (fun e => rows_ne h.safe h.kept (by decide) g g hg' e.symm rfl)
  have k5 : OutD w2 vc S.chg := owns_same h.chg fun g hg' => old g (h.oc g hg') (fun e => rows_ne h.chg h.kept (by decide) g g hg' e.symm rfl)
  have ho : ∀ k, k ≠ D → (w2.setCell ⟨D, 1, none⟩ v').heap[k]? = w2.heap[k]? := fun k hk => Below.heap_setCell w2 ⟨D, 1, none⟩ v' k hk
  exact {
    blk := by rw [heap_set w2 D 1 v' _ _ _ b2]; rfl
    kept := Go.Joins.ownsRow_le (owns_same hv fun g hg => ho g (fun e => row_ne b2 hv (by decide) g hg e.symm)) (Nat.zero_le _)
    now := owns_same k2 fun g hg => ho g (fun e => row_ne b2 k2 (by decide) g hg e.symm)
    names := owns_same k3 fun g hg => ho g (fun e => row_ne b2 k3 (by decide) g hg e.symm)
    safe := owns_same k4 fun g hg => ho g (fun e => row_ne b2 k4 (by decide) g hg e.symm)
    chg := owns_same k5 fun g hg => ho g (fun e => row_ne b2 k5 (by decide) g hg e.symm)
    nk := fun a ha hb => by
      rw [hv'] at hb
      have e : g' = a := by simpa using hb
      subst e
      rcases hat with q | q
      · exact h.nk _ ha q
      · have := (World.ownsRow.lt h.now _ ha).2
        omega
    oD := Or.inl h.oD
    oK := fun b hb => Or.inr hb
    oN := fun b hb => Or.inl (h.oN b hb)
    on := fun b hb => Or.inl (h.on b hb)
    os := fun b hb => Or.inl (h.os b hb)
    oc := fun b hb => Or.inl (h.oc b hb)
    lt := fun k hk => by
      have hs : (w2.setCell ⟨D, 1, none⟩ v').heap.size = w2.heap.size := by simp
      rw [hs]
      rcases hk with hk | hk
      · exact Nat.lt_of_lt_of_le (h.lt k hk) hg.size
      · exact (World.ownsRow.lt hv k hk).2 }
theorem below_drewN {B : Nat} {a w : World} (h : Below B a w) (n : Nat) : Below B a (w.drewN n) := ⟨h.os, h.tape, h.output, h.size, h.block⟩
theorem bytesN_op (S : St) (s : ByteArray) (q : Nat) : bytesN (opS S) s q = bytesN S s q := by
  induction q with
  | zero => rfl
  | succ q ih => unfold bytesN; rw [ih]; rfl
theorem bytesN_succ (S : St) (s : ByteArray) (q : Nat) : bytesN S s (q + 1) = bytesN S s q + if sm (S.names.getD q dN).1 s = true then 0 else ((nowOf S (S.names.getD q dN).2).size : Int) := rfl
theorem used_zero (S : St) (s t : ByteArray) (h : t.size ≤ 9223372036854775807) : (t.size : Int) = wrap64 ((t.size : Int) + bytesN S s 0) := by
  show _ = wrap64 ((t.size : Int) + 0)
  unfold wrap64; omega
theorem used_next (a b c : Int) : wrap64 (a + (b + c)) = wrap64 (wrap64 (a + b) + c) := by rw [wrap_add, Int.add_assoc]
end Go.Proofs.Ytnkgfoabadjboaa
