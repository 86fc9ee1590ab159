/-
  The program's disk in memory, and what plain state it stands for; the blocks that are its own. What a change makes of the names is the document's. Conditions: the names rise.
-/
import Derived.Test.YtnkgfoabadjboaaDk8
namespace Go.Proofs.Ytnkgfoabadjboaa
open Go.RowKit
set_option linter.unusedVariables false
set_option linter.unusedSimpArgs false
def ptrE (fb : Nat → Nat) (o : Option Nat) : Option Addr := o.map fun i => ⟨fb i, 0, none⟩
def toE (fb : Nat → Nat) (e : Ent) : PE := (e.1, some ⟨fb e.2, 0, none⟩)
theorem dropE_map (fb : Nat → Nat) (L : List Ent) (g n : ByteArray) : dropE (L.map (toE fb)) g n = (dropN L g n).map (toE fb) := by
  unfold dropE dropN
  rw [List.filter_map]
  rfl
theorem turn_perm (fb : Nat → Nat) (L : List Ent) (c : Chg) : ((turnN L c).map (toE fb)).Perm (dropE (L.map (toE fb)) c.1 c.2.1 ++ newE c.2.1 (ptrE fb c.2.2)) := by
  obtain ⟨g, n, o⟩ := c
  rw [dropE_map]
  cases o with
  | none => simp only [turnN, newE, ptrE, Option.map_none, List.append_nil]; exact List.Perm.refl _
  | some i =>
    simp only [turnN, newE, ptrE, Option.map_some]
    have := (insN_perm (dropN L g n) (n, i)).map (toE fb)
    rw [List.map_append] at this
    exact this
theorem rising_same {T : List Ent} (h : Rising T) {a b : Ent} (ha : a ∈ T) (hb : b ∈ T) (hs : sm a.1 b.1 = true) : a = b := by
  induction T with
  | nil => cases ha
  | cons x t ih =>
    have hx := (List.pairwise_cons.1 h).1
    have ht := (List.pairwise_cons.1 h).2
    have e := (sm_iff _ _).1 hs
    rcases List.mem_cons.1 ha with hae | ha'
    · rcases List.mem_cons.1 hb with hbe | hb'
      · rw [hae, hbe]
      · have := hx b hb'
        rw [← hae] at this
        unfold ltN at this
        rw [e, bl_irrefl] at this
        exact absurd this (by simp)
    · rcases List.mem_cons.1 hb with hbe | hb'
      · have := hx a ha'
        rw [← hbe] at this
        unfold ltN at this
        rw [e, bl_irrefl] at this
        exact absurd this (by simp)
      · exact ih ht ha' hb'
theorem changed_eq (fb : Nat → Nat) (L : List Ent) (hR : Rising L) (c : Chg) (l' : List PE) (hp : l'.Perm (dropE (L.map (toE fb)) c.1 c.2.1 ++ newE c.2.1 (ptrE fb c.2.2))) (hs : l'.Pairwise (fun a b => ltN b.1 a.1 = false)) : l' = (turnN L c).map (toE fb) := by
  have hP : l'.Perm ((turnN L c).map (toE fb)) := hp.trans (turn_perm fb L c).symm
  have hT := turnN_rising hR c
  have hS : ((turnN L c).map (toE fb)).Pairwise (fun a b => ltN b.1 a.1 = false) := by
    rw [List.pairwise_map]
    exact hT.imp fun h => ltN_asymm h
  refine List.Perm.eq_of_pairwise ?_ hs hS hP
  intro a b ha hb h1 h2
  have hsm := ltN_total h2 h1
  obtain ⟨x, hx, rfl⟩ := List.mem_map.1 (hP.mem_iff.1 ha)
  obtain ⟨y, hy, rfl⟩ := List.mem_map.1 hb
  rw [rising_same hT hx hy hsm]
/-! the disk in memory -/
def encC (fb : Nat → Nat) (c : Chg) : List Value := [.string c.1, .string c.2.1, .pointer (ptrE fb c.2.2)]
def flatC (fb : Nat → Nat) (l : List Chg) : List Value := l.flatMap (encC fb)
theorem flatC_cons (fb : Nat → Nat) (a : Chg) (t : List Chg) : flatC fb (a :: t) = .string a.1 :: .string a.2.1 :: .pointer (ptrE fb a.2.2) :: flatC fb t := rfl
theorem flatC_app (fb : Nat → Nat) (l m : List Chg) : flatC fb (l ++ m) = flatC fb l ++ flatC fb m := by simp [flatC]
theorem flatC_snoc (fb : Nat → Nat) (l : List Chg) (c : Chg) : flatC fb l ++ [.string c.1, .string c.2.1, .pointer (ptrE fb c.2.2)] = flatC fb (l ++ [c]) := by rw [flatC_app]; rfl
theorem flatC_len (fb : Nat → Nat) (l : List Chg) : (flatC fb l).length = l.length * 3 := by
  induction l with
  | nil => rfl
  | cons a t ih => rw [flatC_cons]; simp [ih]; omega
/-- the program's changes in memory -/
def OutC (w : World) (fb : Nat → Nat) (v : Value) (l : List Chg) : Prop := w.ownsRow 0 125 3 v l.length (flatC fb l)
/-- a value's own block belongs to the disk -/
def Mine (O : Nat → Prop) (v : Value) : Prop := ∀ b, v.ownBlock = some b → O b
def file (S : St) (i : Nat) : Array Value := #[.string (S.now.getD i ByteArray.empty), .string (S.kept.getD i ByteArray.empty)]
structure XRep (w : World) (O : Nat → Prop) (B : Nat) (fb : Nat → Nat) (vn vk vc : Value) (S : St) : Prop where
  blk : w.heap[B]? = some (.cells #[vn, vk, vc, .int .i64 S.left, .int .i64 S.room] 92 (0, 0))
  names : OutE w 0 vn (S.names.map (toE fb))
  safe : OutE w 0 vk (S.safe.map (toE fb))
  chg : OutC w fb vc S.chg
  files : ∀ i, i < S.now.length → w.heap[fb i]? = some (.cells (file S i) 122 (0, 0))
  inj : ∀ i j, i < S.now.length → j < S.now.length → fb i = fb j → i = j
  oB : O B
  on : Mine O vn
  ok : Mine O vk
  oc : Mine O vc
  ofl : ∀ i, i < S.now.length → O (fb i)
  lt : ∀ k, O k → k < w.heap.size
/-- what a plain state must be like: m bounds its lists -/
structure St.Ok (S : St) (m : Nat) : Prop where
  len : S.kept.length = S.now.length
  nums : ∀ e ∈ S.names, e.2 < S.now.length
  nums2 : ∀ e ∈ S.safe, e.2 < S.now.length
  nums3 : ∀ c ∈ S.chg, ∀ i, c.2.2 = some i → i < S.now.length
  rise : Rising S.names
  rise2 : Rising S.safe
  tx : ∀ t ∈ S.now, t.size < 4611686018427387904
  tx2 : ∀ t ∈ S.kept, t.size < 4611686018427387904
  ln : S.names.length ≤ m
  ls : S.safe.length + S.chg.length ≤ m
  lf : S.now.length ≤ m
  l0 : -1 ≤ S.left ∧ S.left ≤ 9223372036854775807
  r0 : -1 ≤ S.room ∧ S.room ≤ 9223372036854775807
/-- what a call leaves alone: all old blocks but the disk's own -/
structure Fr (O O' : Nat → Prop) (w w' : World) : Prop where
  os : w'.os = w.os
  tape : w'.tape = w.tape
  output : w'.output = w.output
  size : w.heap.size ≤ w'.heap.size
  block : ∀ k, k < w.heap.size → ¬ O k → w'.heap[k]? = w.heap[k]?
  own : ∀ k, O' k → O k ∨ w.heap.size ≤ k
theorem Fr.refl (O : Nat → Prop) (w : World) : Fr O O w w := ⟨rfl, rfl, rfl, Nat.le_refl _, fun _ _ _ => rfl, fun _ h => Or.inl h⟩
theorem Fr.trans {O O' O'' : Nat → Prop} {a b c : World} (h : Fr O O' a b) (k : Fr O' O'' b c) : Fr O O'' a c :=
  ⟨k.os.trans h.os, k.tape.trans h.tape, k.output.trans h.output, Nat.le_trans h.size k.size,
   fun j hj hO => (k.block j (Nat.lt_of_lt_of_le hj h.size) (fun hO' => by rcases h.own j hO' with h1 | h1; exact hO h1; omega)).trans (h.block j hj hO),
   fun j hj => by
    rcases k.own j hj with h1 | h1
    · exact h.own j h1
    · exact Or.inr (Nat.le_trans h.size h1)⟩
theorem Fr.below {O : Nat → Prop} {w w' : World} (h : Below w.heap.size w w') : Fr O O w w' := ⟨h.os, h.tape, h.output, h.size, fun k hk _ => h.block k hk, fun _ h => Or.inl h⟩
theorem owns_same {w w' : World} {base : Nat} {t : TypeId} {sz : Nat} {v : Value} {n : Nat} {xs : List Value} (h : w.ownsRow base t sz v n xs) (hb : ∀ g, v.ownBlock = some g → w'.heap[g]? = w.heap[g]?) : w'.ownsRow base t sz v n xs := by
  refine ⟨h.1, ?_⟩
  rcases h.2 with h' | ⟨g, cap, cur, rfl, h1, h2, h3⟩
  · exact Or.inl h'
  · exact Or.inr ⟨g, cap, cur, rfl, h1, by rw [hb g rfl]; exact h2, h3⟩
/-- the disk's blocks are as they were: so is the disk -/
theorem XRep.same {w w' : World} {O : Nat → Prop} {B : Nat} {fb : Nat → Nat} {vn vk vc : Value} {S : St} (h : XRep w O B fb vn vk vc S) (hs : w.heap.size ≤ w'.heap.size) (hb : ∀ k, O k → w'.heap[k]? = w.heap[k]?) : XRep w' O B fb vn vk vc S where
  blk := by rw [hb B h.oB]; exact h.blk
  names := owns_same h.names fun g hg => hb g (h.on g hg)
  safe := owns_same h.safe fun g hg => hb g (h.ok g hg)
  chg := owns_same h.chg fun g hg => hb g (h.oc g hg)
  files i hi := by rw [hb _ (h.ofl i hi)]; exact h.files i hi
  inj := h.inj
  oB := h.oB
  on := h.on
  ok := h.ok
  oc := h.oc
  ofl := h.ofl
  lt k hk := Nat.lt_of_lt_of_le (h.lt k hk) hs
theorem XRep.below {w w' : World} {O : Nat → Prop} {B : Nat} {fb : Nat → Nat} {vn vk vc : Value} {S : St} (h : XRep w O B fb vn vk vc S) (hb : Below w.heap.size w w') : XRep w' O B fb vn vk vc S :=
  h.same hb.size fun k hk => hb.block k (h.lt k hk)
/-- a disk is no other disk's business -/
theorem XRep.apart {w w' : World} {O P P' : Nat → Prop} {B : Nat} {fb : Nat → Nat} {vn vk vc : Value} {S : St} (h : XRep w O B fb vn vk vc S) (hf : Fr P P' w w') (hd : ∀ k, O k → ¬ P k) : XRep w' O B fb vn vk vc S :=
  h.same hf.size fun k hk => hf.block k (h.lt k hk) (hd k hk)
end Go.Proofs.Ytnkgfoabadjboaa
