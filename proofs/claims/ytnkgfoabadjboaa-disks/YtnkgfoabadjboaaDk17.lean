/-
  What a failure of the power makes of a plain state. Conditions: those that each law names.
-/
import Derived.Test.YtnkgfoabadjboaaDk16
namespace Go.Proofs.Ytnkgfoabadjboaa
open Go.RowKit
set_option linter.unusedVariables false
set_option linter.unusedSimpArgs false
def dC : Chg := (ByteArray.empty, ByteArray.empty, none)
/-- the kept names and the first changes, up to keep of them -/
def cN (S : St) (keep : Int) : Nat → List Ent
  | 0 => S.safe
  | q + 1 => if (q : Int) < keep then turnN (cN S keep q) (S.chg.getD q dC) else cN S keep q
theorem cN_in (S : St) (keep : Int) (q : Nat) (h : (q : Int) < keep) : cN S keep (q + 1) = turnN (cN S keep q) (S.chg.getD q dC) := by rw [cN, if_pos h]
theorem cN_out (S : St) (keep : Int) (q : Nat) (h : ¬ (q : Int) < keep) : cN S keep (q + 1) = cN S keep q := by rw [cN, if_neg h]
theorem cN_rise {S : St} {m : Nat} (k : S.Ok m) (keep : Int) (q : Nat) : Rising (cN S keep q) := by
  induction q with
  | zero => exact k.rise2
  | succ q ih =>
    by_cases h : (q : Int) < keep
    · rw [cN_in S keep q h]; exact turnN_rising ih _
    · rw [cN_out S keep q h]; exact ih
theorem cN_len (S : St) (keep : Int) (q : Nat) : (cN S keep q).length ≤ S.safe.length + q := by
  induction q with
  | zero => exact Nat.le_refl _
  | succ q ih =>
    by_cases h : (q : Int) < keep
    · rw [cN_in S keep q h]; have := turnN_length (cN S keep q) (S.chg.getD q dC); omega
    · rw [cN_out S keep q h]; omega
theorem cN_nums {S : St} {m : Nat} (k : S.Ok m) (keep : Int) (q : Nat) (hq : q ≤ S.chg.length) : ∀ e ∈ cN S keep q, e.2 < S.now.length := by
  induction q with
  | zero => exact k.nums2
  | succ q ih =>
    by_cases h : (q : Int) < keep
    · rw [cN_in S keep q h]
      intro e he
      rcases turnN_mem he with h1 | h1
      · exact ih (by omega) e h1
      · have hq' : q < S.chg.length := by omega
        have e1 : S.chg.getD q dC = S.chg[q] := by rw [List.getD_eq_getElem?_getD, List.getElem?_eq_getElem hq']; rfl
        rw [e1] at h1
        exact k.nums3 _ (List.getElem_mem hq') _ h1
    · rw [cN_out S keep q h]; exact ih (by omega)
def tearT (n : Int) (a b : ByteArray) : ByteArray := if sm a b = true then a else tornB a b n
def tear (n : Int) (S : St) (i : Nat) : St := { S with now := S.now.set i (tearT n (nowOf S i) (keptOf S i)), kept := S.kept.set i (tearT n (nowOf S i) (keptOf S i)) }
/-- the first q names' files are torn -/
def tears (n : Int) (S : St) (N : List Ent) : Nat → St
  | 0 => S
  | q + 1 => tear n (tears n S N q) (N.getD q dN).2
def crashS (S : St) (keep n : Int) : St :=
  let N := cN S keep S.chg.length
  let T := tears n S N N.length
  ⟨T.now, T.kept, N, N, [], -1, -1⟩
theorem tornB_sizeM (t s : ByteArray) (n : Int) : (tornB t s n).size ≤ max t.size s.size := by
  unfold tornB
  rw [ByteArray.size_append, ByteArray.size_extract, ByteArray.size_extract]
  omega
theorem tear_len (n : Int) (S : St) (i : Nat) : (tear n S i).now.length = S.now.length ∧ (tear n S i).kept.length = S.kept.length := by simp [tear]
theorem mem_set {l : List ByteArray} {i : Nat} {x t : ByteArray} (h : t ∈ l.set i x) : t ∈ l ∨ t = x := by
  rcases List.mem_or_eq_of_mem_set h with h | h
  · exact Or.inl h
  · exact Or.inr h
theorem tear_ok {S : St} {m : Nat} (k : S.Ok m) (n : Int) (i : Nat) (hi : i < S.now.length) : (tear n S i).Ok m := by
  have hT : (tearT n (nowOf S i) (keptOf S i)).size < 4611686018427387904 := by
    have h1 := now_lt k hi
    have h2 := kept_lt k hi
    unfold tearT
    split
    · exact h1
    · have := tornB_sizeM (nowOf S i) (keptOf S i) n; omega
  exact {
    len := by simp [tear, k.len]
    nums := fun e he => by simpa [tear] using k.nums e he
    nums2 := fun e he => by simpa [tear] using k.nums2 e he
    nums3 := fun c hc j hj => by simpa [tear] using k.nums3 c hc j hj
    rise := k.rise
    rise2 := k.rise2
    tx := fun t ht => by rcases mem_set ht with h | h; exact k.tx t h; rw [h]; exact hT
    tx2 := fun t ht => by rcases mem_set ht with h | h; exact k.tx2 t h; rw [h]; exact hT
    ln := k.ln
    ls := k.ls
    lf := by simpa [tear] using k.lf
    l0 := k.l0
    r0 := k.r0 }
theorem tears_now (n : Int) (S : St) (N : List Ent) (q : Nat) : (tears n S N q).now.length = S.now.length ∧ (tears n S N q).names = S.names ∧ (tears n S N q).safe = S.safe ∧ (tears n S N q).chg = S.chg ∧ (tears n S N q).left = S.left ∧ (tears n S N q).room = S.room := by
  induction q with
  | zero => exact ⟨rfl, rfl, rfl, rfl, rfl, rfl⟩
  | succ q ih =>
    refine ⟨?_, ih.2.1, ih.2.2.1, ih.2.2.2.1, ih.2.2.2.2.1, ih.2.2.2.2.2⟩
    show (tear n (tears n S N q) (N.getD q dN).2).now.length = _
    rw [(tear_len _ _ _).1]; exact ih.1
theorem tears_ok {S : St} {m : Nat} (k : S.Ok m) (n : Int) (N : List Ent) (hN : ∀ e ∈ N, e.2 < S.now.length) (q : Nat) (hq : q ≤ N.length) : (tears n S N q).Ok m := by
  induction q with
  | zero => exact k
  | succ q ih =>
    have hq' : q < N.length := by omega
    have e1 : N.getD q dN = N[q] := by rw [List.getD_eq_getElem?_getD, List.getElem?_eq_getElem hq']; rfl
    show (tear n (tears n S N q) (N.getD q dN).2).Ok m
    rw [e1]
    exact tear_ok (ih (by omega)) n _ (by rw [(tears_now n S N q).1]; exact hN _ (List.getElem_mem hq'))
theorem crash_ok {S : St} {m : Nat} (k : S.Ok m) (keep n : Int) : (crashS S keep n).Ok m := by
  have hN := cN_nums k keep S.chg.length (Nat.le_refl _)
  have hT := tears_ok k n (cN S keep S.chg.length) hN (cN S keep S.chg.length).length (Nat.le_refl _)
  have hl := (tears_now n S (cN S keep S.chg.length) (cN S keep S.chg.length).length).1
  have hL : (cN S keep S.chg.length).length ≤ m := Nat.le_trans (cN_len S keep _) k.ls
  exact {
    len := hT.len
    nums := fun e he => by show e.2 < (tears _ _ _ _).now.length; rw [hl]; exact hN e he
    nums2 := fun e he => by show e.2 < (tears _ _ _ _).now.length; rw [hl]; exact hN e he
    nums3 := fun c hc => by cases hc
    rise := cN_rise k keep _
    rise2 := cN_rise k keep _
    tx := hT.tx
    tx2 := hT.tx2
    ln := hL
    ls := by show (cN S keep S.chg.length).length + 0 ≤ m; omega
    lf := by show (tears _ _ _ _).now.length ≤ m; rw [hl]; exact k.lf
    l0 := ⟨by show (-1 : Int) ≤ -1; omega, by show (-1 : Int) ≤ _; omega⟩
    r0 := ⟨by show (-1 : Int) ≤ -1; omega, by show (-1 : Int) ≤ _; omega⟩ }
theorem flatC_at (fb : Nat → Nat) (l : List Chg) (i : Nat) (hi : i < l.length) : (flatC fb l)[i * 3]? = some (.string (l.getD i dC).1) ∧ (flatC fb l)[i * 3 + 1]? = some (.string (l.getD i dC).2.1) ∧ (flatC fb l)[i * 3 + 2]? = some (.pointer (ptrE fb (l.getD i dC).2.2)) := by
  induction l generalizing i with
  | nil => simp at hi
  | cons a t ih =>
    cases i with
    | zero => exact ⟨rfl, rfl, rfl⟩
    | succ i =>
      have := ih i (by simpa using hi)
      rw [flatC_cons, show (i + 1) * 3 = i * 3 + 1 + 1 + 1 by omega]
      simp only [List.getElem?_cons_succ, show i * 3 + 1 + 1 + 1 + 1 = (i * 3 + 1) + 1 + 1 + 1 by omega, show i * 3 + 1 + 1 + 1 + 2 = (i * 3 + 2) + 1 + 1 + 1 by omega]
      exact this
end Go.Proofs.Ytnkgfoabadjboaa
