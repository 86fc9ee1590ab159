/-
  More leaves of the two disks: a new one, its limits, the document's search for a file. Conditions: the cells that are read are there.
-/
import Derived.Test.YtnkgfoabadjboaaDk1
namespace Go.Proofs.Ytnkgfoabadjboaa
open Go.RowKit
set_option linter.unusedVariables false
set_option linter.unusedSimpArgs false
set_option maxHeartbeats 400000 in
theorem new_any (w : World) :
    Calls Try.prog 45 #[] w fun e w' => e = .returned (.pointer (some ⟨w.heap.size, 0, none⟩)) ∧ w' = w.alloc (.cells #[.slice none 0 0, .slice none 0 0, .slice none 0 0, .int .i64 (-1), .int .i64 (-1)] 92) := by
  go_enter Try.func45, Try.ntmps45
  go_wp2
  go_ret
  exact ⟨rfl, rfl⟩
set_option maxHeartbeats 400000 in
theorem rnew_any (w : World) :
    Calls Try.prog 46 #[] w fun e w' => e = .returned (.pointer (some ⟨w.heap.size, 0, none⟩)) ∧ w' = w.alloc (.cells #[.slice none 0 0, .slice none 0 0, .slice none 0 0, .slice none 0 0, .slice none 0 0, .int .i64 (-1), .int .i64 (-1)] 97) := by
  go_enter Try.func46, Try.ntmps46
  go_wp2
  go_ret
  exact ⟨rfl, rfl⟩
def bnd (n : Int) : Int := if n < 0 then -1 else n
set_option maxHeartbeats 400000 in
theorem bound_any (n : Int) (w : World) :
    Calls Try.prog 130 #[.int .i64 n] w fun e w' => e = .returned (.int .i64 (bnd n)) ∧ w' = w := by
  unfold bnd
  by_cases h : n < 0
  · rw [if_pos h]
    go_enter Try.func130, Try.ntmps130
    go_wp2
    go_ret
    exact ⟨rfl, rfl⟩
  · rw [if_neg h]
    go_enter Try.func130, Try.ntmps130
    go_wp2
    go_ret
    exact ⟨rfl, rfl⟩
set_option maxHeartbeats 400000 in
theorem limit_any (B : Nat) (a b : Int) (u v : Value) (w : World) (hc : w.cell? ⟨B, 3, none⟩ = some u) (hd : w.cell? ⟨B, 4, none⟩ = some v) (hf : w.frozen? ⟨B, 3, none⟩ = false) (hg : w.frozen? ⟨B, 4, none⟩ = false) :
    Calls Try.prog 100 #[.pointer (some ⟨B, 0, none⟩), .int .i64 a, .int .i64 b] w fun e w' => e = .returned (.tuple #[]) ∧ w' = (w.setCell ⟨B, 3, none⟩ (.int .i64 (bnd a))).setCell ⟨B, 4, none⟩ (.int .i64 (bnd b)) := by
  have e1 : bnd a = if a < -1 then -1 else a := by unfold bnd; split <;> split <;> omega
  have e2 : bnd b = if b < -1 then -1 else b := by unfold bnd; split <;> split <;> omega
  rw [e1, e2]
  clear e1 e2
  by_cases h : a < -1 <;> by_cases h' : b < -1
  all_goals
    simp only [h, h', if_true, if_false]
    go_enter Try.func100, Try.ntmps100
    go_wp2
    go_end0
    exact ⟨rfl, rfl⟩
set_option maxHeartbeats 400000 in
theorem rlimit_any (B : Nat) (a b : Int) (u v : Value) (w : World) (hc : w.cell? ⟨B, 5, none⟩ = some u) (hd : w.cell? ⟨B, 6, none⟩ = some v) (hf : w.frozen? ⟨B, 5, none⟩ = false) (hg : w.frozen? ⟨B, 6, none⟩ = false) :
    Calls Try.prog 101 #[.pointer (some ⟨B, 0, none⟩), .int .i64 a, .int .i64 b] w fun e w' => e = .returned (.tuple #[]) ∧ w' = (w.setCell ⟨B, 5, none⟩ (.int .i64 (bnd a))).setCell ⟨B, 6, none⟩ (.int .i64 (bnd b)) := by
  go_enter Try.func101, Try.ntmps101
  go_wp2_with (first | (go_at_call 130; refine (bound_any _ _).mono ?_; rintro e w' ⟨rfl, rfl⟩))
  go_end0
  exact ⟨rfl, rfl⟩
set_option maxHeartbeats 400000 in
theorem may_none (B : Nat) (w : World) (hc : w.cell? ⟨B, 5, none⟩ = some (.int .i64 0)) :
    Calls Try.prog 124 #[.pointer (some ⟨B, 0, none⟩)] w fun e w' => e = .returned (.bool false) ∧ w' = w := by
  go_enter Try.func124, Try.ntmps124
  go_wp2
  go_ret
  exact ⟨rfl, rfl⟩
set_option maxHeartbeats 400000 in
theorem may_some (B : Nat) (l : Int) (w : World) (hl : (l == 0) = false) (h0 : -1 ≤ l) (h1 : l ≤ 9223372036854775807) (hc : w.cell? ⟨B, 5, none⟩ = some (.int .i64 l)) (hf : w.frozen? ⟨B, 5, none⟩ = false) :
    Calls Try.prog 124 #[.pointer (some ⟨B, 0, none⟩)] w fun e w' => e = .returned (.bool true) ∧ w' = if 0 < l then w.setCell ⟨B, 5, none⟩ (.int .i64 (l - 1)) else w := by
  by_cases h : 0 < l
  · rw [if_pos h]
    go_enter Try.func124, Try.ntmps124
    go_wp2
    go_ret
    exact ⟨rfl, rfl⟩
  · rw [if_neg h]
    go_enter Try.func124, Try.ntmps124
    go_wp2
    go_ret
    exact ⟨rfl, rfl⟩
set_option maxHeartbeats 400000 in
theorem isName_any (s : ByteArray) (w : World) (hs : s.size ≤ maxLen) :
    Calls Try.prog 125 #[.string s] w fun e w' => e = .returned (.bool (isNm s)) ∧ w' = w := by
  unfold maxLen at hs
  by_cases h : 1 ≤ s.size
  · go_enter Try.func125, Try.ntmps125
    go_wp2
    go_ret
    refine ⟨congrArg Ending.returned (congrArg Value.bool ?_), rfl⟩
    unfold isNm; rw [Bool.eq_iff_iff]; simp; omega
  · go_enter Try.func125, Try.ntmps125
    go_wp2
    go_ret
    refine ⟨congrArg Ending.returned (congrArg Value.bool ?_), rfl⟩
    unfold isNm; rw [Bool.eq_iff_iff]; simp; omega
/-- the document's entries in memory: a name and a file's number each -/
def rE : ByteArray × Int := (ByteArray.empty, -1)
def REnts (w : World) (v : Value) (l : List (ByteArray × Int)) : Prop :=
  (v = .slice none 0 0 ∧ l = []) ∨ ∃ g cap, v = .slice (some ⟨g, 0, none⟩) l.length cap ∧ l.length < 4611686018427387904 ∧ g < w.heap.size ∧ ∀ i, i < l.length → w.cell? ⟨g, i * 2, none⟩ = some (.string (l.getD i rE).1) ∧ w.cell? ⟨g, i * 2 + 1, none⟩ = some (.int .i64 (l.getD i rE).2)
def findR (l : List (ByteArray × Int)) (s : ByteArray) : Int := match l.find? (fun e => e.1.toList == s.toList) with | some e => e.2 | none => -1
theorem findR_at (l : List (ByteArray × Int)) (s : ByteArray) (k : Nat) (hk : k < l.length) (hn : ∀ i, i < k → ((l.getD i rE).1.toList == s.toList) = false) (hy : ((l.getD k rE).1.toList == s.toList) = true) : findR l s = (l.getD k rE).2 := by
  induction l generalizing k with
  | nil => simp at hk
  | cons a t ih =>
    cases k with
    | zero =>
      have hy' : (a.1.toList == s.toList) = true := hy
      unfold findR; rw [List.find?_cons_of_pos (by exact hy')]; rfl
    | succ k =>
      have h0 : (a.1.toList == s.toList) = false := hn 0 (by omega)
      have := ih k (by simpa using hk) (fun i hi => hn (i + 1) (by omega)) hy
      unfold findR at this ⊢
      rw [List.find?_cons_of_neg (by simp [h0])]
      exact this
theorem findR_no (l : List (ByteArray × Int)) (s : ByteArray) (hn : ∀ i, i < l.length → ((l.getD i rE).1.toList == s.toList) = false) : findR l s = -1 := by
  induction l with
  | nil => rfl
  | cons a t ih =>
    have h0 : (a.1.toList == s.toList) = false := hn 0 (by simp)
    have := ih (fun i hi => hn (i + 1) (by simpa using hi))
    unfold findR at this ⊢
    rw [List.find?_cons_of_neg (by simp [h0])]
    exact this
end Go.Proofs.Ytnkgfoabadjboaa
