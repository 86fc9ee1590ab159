/-
  The document's list of names behind a change. Conditions: the entries are there; fewer than 2^41.
-/
import Derived.Test.YtnkgfoabadjboaaDk18
namespace Go.Proofs.Ytnkgfoabadjboaa
open Go.RowKit
set_option linter.unusedVariables false
set_option linter.unusedSimpArgs false
def encR (e : Ent) : List Value := [.string e.1, .int .i64 e.2]
def flatR (l : List Ent) : List Value := l.flatMap encR
theorem flatR_cons (a : Ent) (t : List Ent) : flatR (a :: t) = .string a.1 :: .int .i64 a.2 :: flatR t := rfl
theorem flatR_app (l m : List Ent) : flatR (l ++ m) = flatR l ++ flatR m := by simp [flatR]
theorem flatR_snoc (l : List Ent) (s : ByteArray) (i : Nat) : flatR l ++ [.string s, .int .i64 (i : Int)] = flatR (l ++ [(s, i)]) := by rw [flatR_app]; rfl
theorem flatR_len (l : List Ent) : (flatR l).length = l.length * 2 := by
  induction l with
  | nil => rfl
  | cons a t ih => rw [flatR_cons]; simp [ih]; omega
theorem flatR_at (l : List Ent) (i : Nat) (hi : i < l.length) : (flatR l)[i * 2]? = some (.string (l.getD i dN).1) ∧ (flatR l)[i * 2 + 1]? = some (.int .i64 (l.getD i dN).2) := by
  induction l generalizing i with
  | nil => simp at hi
  | cons a t ih =>
    cases i with
    | zero => exact ⟨rfl, rfl⟩
    | succ i =>
      have := ih i (by simpa using hi)
      rw [flatR_cons, show (i + 1) * 2 = i * 2 + 1 + 1 by omega, List.getElem?_cons_succ, List.getElem?_cons_succ, show i * 2 + 1 + 1 + 1 = (i * 2 + 1) + 1 + 1 by omega, List.getElem?_cons_succ, List.getElem?_cons_succ]
      exact this
def OutR (w : World) (B : Nat) (v : Value) (l : List Ent) : Prop := w.ownsRow B 127 2 v l.length (flatR l)
/-- a file's number, or -1 -/
def fileI (o : Option Nat) : Int := match o with | none => -1 | some i => (i : Int)
theorem Try.infoR : (Try.prog.info? 127).map (fun i => (i.zero, i.size, i.bytes)) = some (some (.agg #[.string ByteArray.empty, .int .i64 0]), 2, 24) := by kernel_rfl
theorem rnews (w : World) (b : Nat) (hb : b = w.heap.size) (s : ByteArray) (p : Int) : ∀ j u, [Value.string s, Value.int IntKind.i64 p][j]? = some u → (w.alloc (.cells #[.string s, .int .i64 p] 127)).cell? ((⟨b, 0, none⟩ : Addr).add j) = some u := by
  subst hb
  intro j u hu
  have e : (⟨w.heap.size, 0, none⟩ : Addr).add j = ⟨w.heap.size, j, none⟩ := by unfold Addr.add; split <;> simp_all
  rw [e, World.cell?_alloc_mark]
  simpa using hu
theorem rone (s : ByteArray) (p : Int) : ∀ u ∈ [Value.string s, Value.int IntKind.i64 p], u.oneCell' = true := by
  intro u hu
  simp at hu
  rcases hu with rfl | rfl <;> rfl
theorem roundsR_len (c : Chg) (l : List Ent) : (roundsR c l).1.length ≤ l.length + 1 := by
  cases ho : c.2.2 with
  | none => rw [roundsR_none c ho]; exact turnN_length l c
  | some i =>
    have h := roundsR_some c i ho l
    have h2 := turnN_length l c
    rw [← h] at h2
    split at h2
    · exact h2
    · simp at h2; omega
/-- what the rounds so far have made -/
def RD (c : Chg) (L : List Ent) (q : Nat) : List Ent := (roundsR c (L.take q)).1
def RP (c : Chg) (L : List Ent) (q : Nat) : Bool := (roundsR c (L.take q)).2
theorem RD_len (c : Chg) (L : List Ent) (q : Nat) : (RD c L q).length ≤ L.length + 1 := by
  have := roundsR_len c (L.take q)
  have h2 : (L.take q).length ≤ L.length := by rw [List.length_take]; omega
  unfold RD; omega
theorem R_step (c : Chg) (L : List Ent) (q : Nat) (hq : q < L.length) : (RD c L (q + 1), RP c L (q + 1)) = stepR c (RD c L q, RP c L q) (L.getD q dN) := by
  have e : L.getD q dN = L[q] := by rw [List.getD_eq_getElem?_getD, List.getElem?_eq_getElem hq]; rfl
  rw [e]
  have := roundsR_succ c L q hq
  unfold RD RP
  rw [this]
theorem R_zero (c : Chg) (L : List Ent) : RD c L 0 = [] ∧ RP c L 0 = c.2.2.isNone := by unfold RD RP roundsR; simp
end Go.Proofs.Ytnkgfoabadjboaa
