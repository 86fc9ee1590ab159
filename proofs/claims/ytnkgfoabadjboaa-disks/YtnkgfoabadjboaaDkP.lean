/-
  What a disk is and what each call makes of it, as plain functions on lists: both disks, the program's and the document's, are held against these. No conditions but those that each law names.
-/
import Derived.Test.YtnkgfoabadjboaaDk3
namespace Go.Proofs.Ytnkgfoabadjboaa
set_option linter.unusedVariables false
set_option linter.unusedSimpArgs false
abbrev Ent := ByteArray × Nat
abbrev Chg := ByteArray × ByteArray × Option Nat
structure St where
  now : List ByteArray
  kept : List ByteArray
  names : List Ent
  safe : List Ent
  chg : List Chg
  left : Int
  room : Int
/-- the same name? -/
def sm (a b : ByteArray) : Bool := a.toList == b.toList
theorem sm_refl (a : ByteArray) : sm a a = true := by simp [sm]
theorem sm_iff (a b : ByteArray) : sm a b = true ↔ a.toList = b.toList := by simp [sm]
def findN (l : List Ent) (s : ByteArray) : Option Nat := (l.find? fun e => sm e.1 s).map (·.2)
def dropN (l : List Ent) (g n : ByteArray) : List Ent := l.filter fun e => !sm e.1 g && !sm e.1 n
def ltN (a b : ByteArray) : Bool := Op.bytesLess a.toList b.toList
def insN : List Ent → Ent → List Ent
  | [], x => [x]
  | e :: t, x => if ltN x.1 e.1 = true then x :: e :: t else e :: insN t x
def turnN (l : List Ent) (c : Chg) : List Ent := match c.2.2 with
  | none => dropN l c.1 c.2.1
  | some i => insN (dropN l c.1 c.2.1) (c.2.1, i)
/-- one round of the document's 'turned' -/
def stepR (c : Chg) (s : List Ent × Bool) (e : Ent) : List Ent × Bool :=
  if sm e.1 c.1 = true ∨ sm e.1 c.2.1 = true then s
  else if s.2 = false ∧ ltN c.2.1 e.1 = true then (s.1 ++ [(c.2.1, c.2.2.getD 0)] ++ [e], true)
  else (s.1 ++ [e], s.2)
def roundsR (c : Chg) (l : List Ent) : List Ent × Bool := l.foldl (stepR c) ([], c.2.2.isNone)
theorem foldR_put (c : Chg) (l : List Ent) (out : List Ent) : l.foldl (stepR c) (out, true) = (out ++ dropN l c.1 c.2.1, true) := by
  induction l generalizing out with
  | nil => simp [dropN]
  | cons e t ih =>
    rw [List.foldl_cons]
    by_cases h1 : sm e.1 c.1 = true
    · have e1 : stepR c (out, true) e = (out, true) := by simp [stepR, h1]
      have e2 : dropN (e :: t) c.1 c.2.1 = dropN t c.1 c.2.1 := by simp [dropN, h1]
      rw [e1, e2]; exact ih out
    · by_cases h2 : sm e.1 c.2.1 = true
      · have e1 : stepR c (out, true) e = (out, true) := by simp [stepR, h2]
        have e2 : dropN (e :: t) c.1 c.2.1 = dropN t c.1 c.2.1 := by simp [dropN, h2]
        rw [e1, e2]; exact ih out
      · simp only [Bool.not_eq_true] at h1 h2
        have e2 : dropN (e :: t) c.1 c.2.1 = e :: dropN t c.1 c.2.1 := by simp [dropN, h1, h2]
        have e1 : stepR c (out, true) e = (out ++ [e], true) := by simp [stepR, h1, h2]
        rw [e1, e2, ih (out ++ [e])]
        simp
theorem foldR_no (c : Chg) (i : Nat) (hc : c.2.2 = some i) (l : List Ent) (out : List Ent) :
    let r := l.foldl (stepR c) (out, false)
    (if r.2 = true then r.1 else r.1 ++ [(c.2.1, i)]) = out ++ insN (dropN l c.1 c.2.1) (c.2.1, i) := by
  induction l generalizing out with
  | nil => simp [dropN, insN]
  | cons e t ih =>
    rw [List.foldl_cons]
    by_cases h1 : sm e.1 c.1 = true
    · have e1 : stepR c (out, false) e = (out, false) := by simp [stepR, h1]
      have e2 : dropN (e :: t) c.1 c.2.1 = dropN t c.1 c.2.1 := by simp [dropN, h1]
      rw [e1, e2]; exact ih out
    · by_cases h2 : sm e.1 c.2.1 = true
      · have e1 : stepR c (out, false) e = (out, false) := by simp [stepR, h2]
        have e2 : dropN (e :: t) c.1 c.2.1 = dropN t c.1 c.2.1 := by simp [dropN, h2]
        rw [e1, e2]; exact ih out
      · simp only [Bool.not_eq_true] at h1 h2
        have e2 : dropN (e :: t) c.1 c.2.1 = e :: dropN t c.1 c.2.1 := by simp [dropN, h1, h2]
        by_cases h3 : ltN c.2.1 e.1 = true
        · have e1 : stepR c (out, false) e = (out ++ [(c.2.1, i)] ++ [e], true) := by simp [stepR, h1, h2, h3, hc]
          rw [e1, e2, foldR_put]
          simp [insN, h3]
        · have e1 : stepR c (out, false) e = (out ++ [e], false) := by simp [stepR, h1, h2, h3]
          rw [e1, e2]
          have := ih (out ++ [e])
          simp only at this ⊢
          rw [this]
          simp [insN, h3]
theorem roundsR_none (c : Chg) (hc : c.2.2 = none) (l : List Ent) : roundsR c l = (turnN l c, true) := by
  unfold roundsR turnN
  rw [hc]
  simpa using foldR_put c l []
theorem roundsR_some (c : Chg) (i : Nat) (hc : c.2.2 = some i) (l : List Ent) : (if (roundsR c l).2 = true then (roundsR c l).1 else (roundsR c l).1 ++ [(c.2.1, i)]) = turnN l c := by
  unfold roundsR turnN
  rw [hc]
  simpa using foldR_no c i hc l []
theorem roundsR_succ (c : Chg) (l : List Ent) (k : Nat) (hk : k < l.length) : roundsR c (l.take (k + 1)) = stepR c (roundsR c (l.take k)) l[k] := by
  unfold roundsR
  rw [List.take_succ_eq_append_getElem hk, List.foldl_append]
  rfl
/-! the order of names -/
theorem bl_irrefl (x : List UInt8) : Op.bytesLess x x = false := by
  induction x with
  | nil => rfl
  | cons a t ih => simp [Op.bytesLess, ih]
theorem bl_trans (x y z : List UInt8) (h1 : Op.bytesLess x y = true) (h2 : Op.bytesLess y z = true) : Op.bytesLess x z = true := by
  induction x generalizing y z with
  | nil =>
    cases z with
    | nil => cases y <;> simp [Op.bytesLess] at h2
    | cons c z => rfl
  | cons a x ih =>
    cases y with
    | nil => simp [Op.bytesLess] at h1
    | cons b y =>
      cases z with
      | nil => simp [Op.bytesLess] at h2
      | cons c z =>
        simp only [Op.bytesLess, Bool.or_eq_true, decide_eq_true_eq, Bool.and_eq_true, beq_iff_eq] at h1 h2 ⊢
        rcases h1 with h1 | ⟨rfl, h1⟩
        · rcases h2 with h2 | ⟨rfl, h2⟩
          · exact Or.inl (UInt8.lt_trans h1 h2)
          · exact Or.inl h1
        · rcases h2 with h2 | ⟨rfl, h2⟩
          · exact Or.inl h2
          · exact Or.inr ⟨rfl, ih y z h1 h2⟩
theorem bl_total (x y : List UInt8) (h1 : Op.bytesLess x y = false) (h2 : Op.bytesLess y x = false) : x = y := by
  induction x generalizing y with
  | nil =>
    cases y with
    | nil => rfl
    | cons b y => simp [Op.bytesLess] at h1
  | cons a x ih =>
    cases y with
    | nil => simp [Op.bytesLess] at h2
    | cons b y =>
      simp only [Op.bytesLess, Bool.or_eq_false_iff, decide_eq_false_iff_not, Bool.and_eq_false_iff, beq_eq_false_iff_ne] at h1 h2
      have e : a = b := by
        have := h1.1; have := h2.1
        rw [UInt8.lt_iff_toNat_lt] at *
        exact UInt8.toNat_inj.1 (by omega)
      subst e
      rcases h1.2 with h | h
      · exact absurd rfl h
      · rcases h2.2 with h' | h'
        · exact absurd rfl h'
        · rw [ih y h h']
theorem ltN_irrefl (x : ByteArray) : ltN x x = false := bl_irrefl _
theorem ltN_trans {x y z : ByteArray} (h1 : ltN x y = true) (h2 : ltN y z = true) : ltN x z = true := bl_trans _ _ _ h1 h2
theorem ltN_asymm {x y : ByteArray} (h1 : ltN x y = true) : ltN y x = false := by
  cases h : ltN y x with
  | false => rfl
  | true => have := ltN_trans h1 h; rw [ltN_irrefl] at this; exact absurd this (by simp)
theorem ltN_total {x y : ByteArray} (h1 : ltN x y = false) (h2 : ltN y x = false) : sm x y = true := by
  rw [sm_iff]; exact bl_total _ _ h1 h2
theorem ltN_ntrans {x y z : ByteArray} (h1 : ltN x y = false) (h2 : ltN y z = false) : ltN x z = false := by
  cases h : ltN x z with
  | false => rfl
  | true =>
    cases g : ltN y x with
    | true => have := ltN_trans g h; rw [h2] at this; exact absurd this (by simp)
    | false =>
      have e := (sm_iff _ _).1 (ltN_total h1 g)
      unfold ltN at h h2
      rw [e, h2] at h
      exact absurd h (by simp)
def Rising (l : List Ent) : Prop := l.Pairwise fun a b => ltN a.1 b.1 = true
theorem dropN_rising {l : List Ent} (h : Rising l) (g n : ByteArray) : Rising (dropN l g n) := List.Pairwise.filter _ h
theorem dropN_ne {l : List Ent} {g n : ByteArray} {e : Ent} (h : e ∈ dropN l g n) : sm e.1 n = false := by
  simp [dropN] at h; exact h.2.2
theorem insN_mem {l : List Ent} {x e : Ent} (h : e ∈ insN l x) : e = x ∨ e ∈ l := by
  induction l with
  | nil => simpa [insN] using h
  | cons a t ih =>
    unfold insN at h
    split at h
    · simpa using h
    · rcases List.mem_cons.1 h with rfl | h
      · exact Or.inr (by simp)
      · rcases ih h with h | h
        · exact Or.inl h
        · exact Or.inr (by simp [h])
theorem insN_rising {l : List Ent} {x : Ent} (h : Rising l) (hx : ∀ e ∈ l, sm e.1 x.1 = false) : Rising (insN l x) := by
  induction l with
  | nil => simp [insN, Rising]
  | cons a t ih =>
    have ht : Rising t := (List.pairwise_cons.1 h).2
    have ha := (List.pairwise_cons.1 h).1
    unfold insN
    split
    · rename_i hlt
      refine List.pairwise_cons.2 ⟨?_, h⟩
      intro e he
      rcases List.mem_cons.1 he with rfl | he
      · exact hlt
      · exact ltN_trans hlt (ha e he)
    · rename_i hlt
      refine List.pairwise_cons.2 ⟨?_, ih ht fun e he => hx e (by simp [he])⟩
      intro e he
      rcases insN_mem he with rfl | he
      · cases hh : ltN a.1 e.1 with
        | true => rfl
        | false =>
          have := ltN_total hh (by simpa using hlt)
          rw [hx a (by simp)] at this
          exact absurd this (by simp)
      · exact ha e he
theorem insN_perm (l : List Ent) (x : Ent) : (insN l x).Perm (l ++ [x]) := by
  induction l with
  | nil => simp [insN]
  | cons a t ih =>
    unfold insN
    split
    · exact (List.perm_append_singleton x (a :: t)).symm
    · exact List.Perm.cons a ih
theorem turnN_rising {l : List Ent} (h : Rising l) (c : Chg) : Rising (turnN l c) := by
  unfold turnN
  split
  · exact dropN_rising h _ _
  · exact insN_rising (dropN_rising h _ _) fun e he => dropN_ne he
theorem insN_length (l : List Ent) (x : Ent) : (insN l x).length = l.length + 1 := by
  rw [(insN_perm l x).length_eq]; simp
theorem turnN_length (l : List Ent) (c : Chg) : (turnN l c).length ≤ l.length + 1 := by
  unfold turnN
  have : (dropN l c.1 c.2.1).length ≤ l.length := List.length_filter_le _ _
  split
  · omega
  · rw [insN_length]; omega
theorem turnN_mem {l : List Ent} {c : Chg} {e : Ent} (h : e ∈ turnN l c) : e ∈ l ∨ c.2.2 = some e.2 := by
  unfold turnN at h
  split at h
  · exact Or.inl (List.mem_filter.1 h).1
  · rename_i i hc
    rcases insN_mem h with rfl | h
    · exact Or.inr hc
    · exact Or.inl (List.mem_filter.1 h).1
theorem findN_mem {l : List Ent} {s : ByteArray} {i : Nat} (h : findN l s = some i) : ∃ e ∈ l, e.2 = i := by
  unfold findN at h
  rw [Option.map_eq_some_iff] at h
  obtain ⟨e, h1, h2⟩ := h
  exact ⟨e, List.mem_of_find?_eq_some h1, h2⟩
end Go.Proofs.Ytnkgfoabadjboaa
