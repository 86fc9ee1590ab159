/-
  Write of the program's disk. Conditions: the disk stands for a plain state; fewer than 2^41 entries; lengths are ints.
-/
import Derived.Test.YtnkgfoabadjboaaDk13
namespace Go.Proofs.Ytnkgfoabadjboaa
open Go.RowKit
set_option linter.unusedVariables false
set_option linter.unusedSimpArgs false
def dN : Ent := (ByteArray.empty, 0)
/-- the bytes of the first k files but that of one name -/
def bytesN (S : St) (s : ByteArray) : Nat → Int
  | 0 => 0
  | k + 1 => bytesN S s k + if sm (S.names.getD k dN).1 s = true then 0 else ((nowOf S (S.names.getD k dN).2).size : Int)
theorem bytes_eq (S : St) (s : ByteArray) (fb : Nat → Nat) (k : Nat) (hk : k ≤ S.names.length) : bytesBut s (fun i => nowOf S (S.names.getD i dN).2) (S.names.map (toE fb)) k = bytesN S s k := by
  induction k with
  | zero => rfl
  | succ k ih =>
    have hk' : k < S.names.length := by omega
    have e : ((S.names.map (toE fb)).getD k dE).1 = (S.names.getD k dN).1 := by
      rw [List.getD_eq_getElem?_getD, List.getD_eq_getElem?_getD, List.getElem?_map, List.getElem?_eq_getElem hk']; rfl
    rw [bytesBut_succ, ih (by omega), e]
    rfl
theorem xused_any (O : Nat → Prop) (B : Nat) (fb : Nat → Nat) (vn vk vc : Value) (S : St) (m : Nat) (s : ByteArray) (w : World) (h : XRep w O B fb vn vk vc S) (k : S.Ok m) (hm : m < 2199023255552) :
    Calls Try.prog 121 #[.pointer (some ⟨B, 0, none⟩), .string s] w fun e w' => e = .returned (.int .i64 (wrap64 (bytesN S s S.names.length))) ∧ Below w.heap.size w w' := by
  have := used_any B vn (S.names.map (toE fb)) (fun i => nowOf S (S.names.getD i dN).2) s w (h.lt B h.oB) (cell_in h.blk 0 _ rfl) (ents_of h.names (by have := k.ln; simp; omega)) (fun i hi => by
    have hi' : i < S.names.length := by simpa using hi
    have hm : S.names[i] ∈ S.names := List.getElem_mem hi'
    have hj := k.nums _ hm
    have e : S.names.getD i dN = S.names[i] := by rw [List.getD_eq_getElem?_getD, List.getElem?_eq_getElem hi']; rfl
    refine ⟨fb S.names[i].2, ?_, h.lt _ (h.ofl _ hj), ?_, ?_⟩
    · rw [List.getD_eq_getElem?_getD, List.getElem?_map, List.getElem?_eq_getElem hi']; rfl
    · simp only [e]; exact cell_in (h.files _ hj) 0 _ rfl
    · simp only [e]; have := now_lt k hj; unfold maxLen; omega)
  rw [List.length_map, bytes_eq S s fb _ (Nat.le_refl _)] at this
  exact this
def fullW (S : St) (s t : ByteArray) : Prop := 0 ≤ S.room ∧ S.room < wrap64 (bytesN S s S.names.length + t.size)
instance (S : St) (s t : ByteArray) : Decidable (fullW S s t) := by unfold fullW; exact inferInstance
def newF (S : St) : St := { S with now := S.now ++ [ByteArray.empty], kept := S.kept ++ [ByteArray.empty] }
def putN (S : St) (i : Nat) (t : ByteArray) : St := { S with now := S.now.set i t }
def wrE (S : St) (s t : ByteArray) : Int := if S.left = 0 then 6 else if isNm s = false then 4 else if fullW S s t then 5 else 0
def wrS (S : St) (s t : ByteArray) : St := if S.left = 0 then S else if isNm s = false then opS S else if fullW S s t then opS S else
  match findN S.names s with
  | some i => putN (opS S) i t
  | none => putN (chgS (newF (opS S)) (s, s, some S.now.length)) S.now.length t
theorem XRep.newFile {w : World} {O : Nat → Prop} {B : Nat} {fb : Nat → Nat} {vn vk vc : Value} {S : St} {m : Nat} (h : XRep w O B fb vn vk vc S) (k : S.Ok m) :
    XRep (w.alloc (.cells #[.string ByteArray.empty, .string ByteArray.empty] 122)) (fun q => O q ∨ q = w.heap.size) B (fun j => if j = S.now.length then w.heap.size else fb j) vn vk vc (newF S) := by
  obtain ⟨fb', hfb⟩ : ∃ f : Nat → Nat, f = fun j => if j = S.now.length then w.heap.size else fb j := ⟨_, rfl⟩
  have f1 : fb' S.now.length = w.heap.size := by rw [hfb]; simp
  have f2 : ∀ j, j < S.now.length → fb' j = fb j := fun j hj => by rw [hfb]; simp [show ¬ j = S.now.length by omega]
  rw [← hfb]
  have hb : Below w.heap.size w (w.alloc (.cells #[.string ByteArray.empty, .string ByteArray.empty] 122)) := (Below.refl _ _).alloc (Nat.le_refl _) _
  have h1 := h.below hb
  have eN : ∀ L : List Ent, (∀ e ∈ L, e.2 < S.now.length) → L.map (toE fb') = L.map (toE fb) := fun L hL => List.map_congr_left fun e he => by unfold toE; rw [f2 _ (hL e he)]
  have eC : ∀ C : List Chg, (∀ c ∈ C, ∀ i, c.2.2 = some i → i < S.now.length) → flatC fb' C = flatC fb C := by
    intro C hC
    induction C with
    | nil => rfl
    | cons c t ih =>
      rw [flatC_cons, flatC_cons, ih fun c hc => hC c (List.mem_cons_of_mem _ hc)]
      have : ptrE fb' c.2.2 = ptrE fb c.2.2 := by
        cases hq : c.2.2 with
        | none => rfl
        | some i => unfold ptrE; simp only [Option.map_some]; rw [f2 i (hC c (List.mem_cons_self) i hq)]
      rw [this]
  exact {
    blk := h1.blk
    names := by show OutE _ _ _ (S.names.map (toE fb')); rw [eN _ k.nums]; exact h1.names
    safe := by show OutE _ _ _ (S.safe.map (toE fb')); rw [eN _ k.nums2]; exact h1.safe
    chg := by show World.ownsRow _ _ _ _ _ _ (flatC fb' S.chg); rw [eC _ k.nums3]; exact h1.chg
    files := fun i hi => by
      have hi' : i < S.now.length + 1 := by simpa [newF] using hi
      by_cases e : i = S.now.length
      · subst e
        rw [f1, heap_alloc_new]
        unfold file newF
        simp [List.getD_eq_getElem?_getD, k.len]
      · have hlt : i < S.now.length := by omega
        rw [f2 i hlt, h1.files i hlt]
        unfold file newF
        have hlk : i < S.kept.length := by rw [k.len]; exact hlt
        simp [List.getD_eq_getElem?_getD, List.getElem?_append_left hlt, List.getElem?_append_left hlk]
    inj := fun a b ha hb hab => by
      have ha' : a < S.now.length + 1 := by simpa [newF] using ha
      have hb' : b < S.now.length + 1 := by simpa [newF] using hb
      by_cases e1 : a = S.now.length
      · by_cases e2 : b = S.now.length
        · omega
        · exfalso
          rw [e1, f1, f2 b (by omega)] at hab
          have := h.lt _ (h.ofl b (by omega))
          omega
      · by_cases e2 : b = S.now.length
        · exfalso
          rw [e2, f1, f2 a (by omega)] at hab
          have := h.lt _ (h.ofl a (by omega))
          omega
        · rw [f2 a (by omega), f2 b (by omega)] at hab
          exact h.inj a b (by omega) (by omega) hab
    oB := Or.inl h.oB
    on := fun b hb => Or.inl (h.on b hb)
    ok := fun b hb => Or.inl (h.ok b hb)
    oc := fun b hb => Or.inl (h.oc b hb)
    ofl := fun i hi => by
      have hi' : i < S.now.length + 1 := by simpa [newF] using hi
      by_cases e : i = S.now.length
      · rw [e, f1]; exact Or.inr rfl
      · rw [f2 i (by omega)]; exact Or.inl (h.ofl i (by omega))
    lt := fun q hq => by
      rcases hq with hq | hq
      · exact Nat.lt_of_lt_of_le (h.lt q hq) hb.size
      · rw [hq]; simp }
theorem St.Ok.newF {S : St} {m : Nat} (k : S.Ok m) : (newF S).Ok (m + 1) where
  len := by simp [Ytnkgfoabadjboaa.newF, k.len]
  nums e he := by have := k.nums e he; simp [Ytnkgfoabadjboaa.newF]; omega
  nums2 e he := by have := k.nums2 e he; simp [Ytnkgfoabadjboaa.newF]; omega
  nums3 c hc i hi := by have := k.nums3 c hc i hi; simp [Ytnkgfoabadjboaa.newF]; omega
  rise := k.rise
  rise2 := k.rise2
  tx t ht := by
    rcases List.mem_append.1 ht with h | h
    · exact k.tx t h
    · simp at h; rw [h]; decide
  tx2 t ht := by
    rcases List.mem_append.1 ht with h | h
    · exact k.tx2 t h
    · simp at h; rw [h]; decide
  ln := Nat.le_succ_of_le k.ln
  ls := Nat.le_succ_of_le k.ls
  lf := by have := k.lf; simp [Ytnkgfoabadjboaa.newF]; omega
  l0 := k.l0
  r0 := k.r0
end Go.Proofs.Ytnkgfoabadjboaa
