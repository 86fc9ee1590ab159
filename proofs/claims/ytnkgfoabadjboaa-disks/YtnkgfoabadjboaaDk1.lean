/-
  The leaves of the two disks as they are walked: what each call answers and which cell it turns. Conditions: the cells that it reads are there.
-/
import Derived.Test.YtnkgfoabadjboaaSoft
namespace Go.Proofs.Ytnkgfoabadjboaa
open Go.RowKit
set_option linter.unusedVariables false
set_option linter.unusedSimpArgs false
/-- how many operations are left behind one -/
def less1 (l : Int) : Int := if 0 < l then l - 1 else l
set_option maxHeartbeats 400000 in
theorem oper_none (B : Nat) (w : World) (hc : w.cell? ⟨B, 3, none⟩ = some (.int .i64 0)) :
    Calls Try.prog 119 #[.pointer (some ⟨B, 0, none⟩)] w fun e w' => e = .returned (.bool false) ∧ w' = w := by
  go_enter Try.func119, Try.ntmps119
  go_wp2
  go_ret
  exact ⟨rfl, rfl⟩
set_option maxHeartbeats 400000 in
theorem oper_some (B : Nat) (l : Int) (w : World) (hl : (l == 0) = false) (h0 : -1 ≤ l) (h1 : l ≤ 9223372036854775807) (hc : w.cell? ⟨B, 3, none⟩ = some (.int .i64 l)) (hf : w.frozen? ⟨B, 3, none⟩ = false) :
    Calls Try.prog 119 #[.pointer (some ⟨B, 0, none⟩)] w fun e w' => e = .returned (.bool true) ∧ w' = if 0 < l then w.setCell ⟨B, 3, none⟩ (.int .i64 (l - 1)) else w := by
  by_cases h : 0 < l
  · rw [if_pos h]
    go_enter Try.func119, Try.ntmps119
    go_wp2
    go_ret
    exact ⟨rfl, rfl⟩
  · rw [if_neg h]
    go_enter Try.func119, Try.ntmps119
    go_wp2
    go_ret
    exact ⟨rfl, rfl⟩
def isNm (s : ByteArray) : Bool := decide (1 ≤ s.size ∧ s.size ≤ 16)
theorem toList_len (s : ByteArray) : s.toList.length = s.size := by
  rw [ByteArray.toList_eq s]; cases s; rfl
theorem toList_nil (s : ByteArray) : s.toList = [] ↔ s.size = 0 := by
  rw [← List.length_eq_zero_iff, toList_len]
theorem isEmpty_ne (s : ByteArray) (h : ¬ s.toList = []) : s.toList.isEmpty = false := by
  cases hl : s.toList with
  | nil => exact absurd hl h
  | cons a t => rfl
set_option maxHeartbeats 400000 in
theorem named_any (s : ByteArray) (w : World) (hs : s.size ≤ maxLen) :
    Calls Try.prog 120 #[.string s] w fun e w' => e = .returned (.bool (isNm s)) ∧ w' = w := by
  unfold maxLen at hs
  go_enter Try.func120, Try.ntmps120
  go_wp2
  · go_ret
    refine ⟨ret_bool ?_, rfl⟩
    rename_i h
    have := (toList_nil s).1 h
    unfold isNm; simp [this]
  · go_ret
    rename_i h
    have h' : ¬ s.size = 0 := fun g => h ((toList_nil s).2 g)
    refine ⟨congrArg Ending.returned (congrArg Value.bool ?_), rfl⟩
    rw [isEmpty_ne s h]
    unfold isNm
    rw [Bool.eq_iff_iff]; simp; omega
/-- entries in memory: a name and a pointer each -/
def dE : ByteArray × Option Addr := (ByteArray.empty, none)
def Ents (w : World) (v : Value) (l : List (ByteArray × Option Addr)) : Prop :=
  (v = .slice none 0 0 ∧ l = []) ∨ ∃ g cap, v = .slice (some ⟨g, 0, none⟩) l.length cap ∧ l.length < 4611686018427387904 ∧ g < w.heap.size ∧ ∀ i, i < l.length → w.cell? ⟨g, i * 2, none⟩ = some (.string (l.getD i dE).1) ∧ w.cell? ⟨g, i * 2 + 1, none⟩ = some (.pointer (l.getD i dE).2)
def findE (l : List (ByteArray × Option Addr)) (s : ByteArray) : Option Addr := match l.find? (fun e => e.1.toList == s.toList) with | some e => e.2 | none => none
theorem find_at (l : List (ByteArray × Option Addr)) (s : ByteArray) (k : Nat) (hk : k < l.length) (hn : ∀ i, i < k → ((l.getD i dE).1.toList == s.toList) = false) (hy : ((l.getD k dE).1.toList == s.toList) = true) : findE l s = (l.getD k dE).2 := by
  induction l generalizing k with
  | nil => simp at hk
  | cons a t ih =>
    cases k with
    | zero =>
      have hy' : (a.1.toList == s.toList) = true := hy
      unfold findE; rw [List.find?_cons_of_pos (by exact hy')]; rfl
    | succ k =>
      have h0 : (a.1.toList == s.toList) = false := hn 0 (by omega)
      have := ih k (by simpa using hk) (fun i hi => hn (i + 1) (by omega)) hy
      unfold findE at this ⊢
      rw [List.find?_cons_of_neg (by simp [h0])]
      exact this
theorem find_no (l : List (ByteArray × Option Addr)) (s : ByteArray) (hn : ∀ i, i < l.length → ((l.getD i dE).1.toList == s.toList) = false) : findE l s = none := by
  induction l with
  | nil => rfl
  | cons a t ih =>
    have h0 : (a.1.toList == s.toList) = false := hn 0 (by simp)
    have := ih (fun i hi => hn (i + 1) (by simpa using hi))
    unfold findE at this ⊢
    rw [List.find?_cons_of_neg (by simp [h0])]
    exact this
set_option maxHeartbeats 1000000 in
theorem find_any (v : Value) (l : List (ByteArray × Option Addr)) (s : ByteArray) (w : World) (hv : Ents w v l) :
    Calls Try.prog 122 #[v, .string s] w fun e w' => e = .returned (.pointer (findE l s)) ∧ Below w.heap.size w w' := by
  rcases hv with ⟨rfl, rfl⟩ | ⟨g, cap, rfl, hn, hg, hc⟩
  · go_enter Try.func122, Try.ntmps122
    go_wp2
    refine wp_loop_rounds 1 ?_
    rw [rounds_succ]
    go_wp2
    go_ret
    exact ⟨rfl, Below.refl _ _⟩
  · obtain ⟨n, hnn⟩ : ∃ n, n = l.length := ⟨_, rfl⟩
    rw [← hnn] at hn ⊢
    have HC : Hid _ := hc
    have HN : Hid _ := hnn
    clear hc hnn
    go_enter Try.func122, Try.ntmps122
    go_wp2
    go_loopw [9] (fun iv wr => ∃ k : Nat, k ≤ n ∧ iv = .int .i64 k ∧ Hid (Below w.heap.size w wr) ∧ Hid (∀ i, i < k → ((l.getD i dE).1.toList == s.toList) = false)) (fun iv _ => n - (intOf iv).toNat)
    case atStart => exact ⟨0, by omega, rfl, Below.refl _ _, fun i h => absurd h (by omega)⟩
    case round =>
      obtain ⟨k, hk, rfl, BW, NM⟩ := hrel
      by_cases hlt : k < n
      · obtain ⟨c1, c2⟩ := HC.out k (by rw [← HN.out]; exact hlt)
        obtain ⟨nm, hnm⟩ : ∃ x, x = (l.getD k dE).1 := ⟨_, rfl⟩
        obtain ⟨pt, hpt⟩ : ∃ x, x = (l.getD k dE).2 := ⟨_, rfl⟩
        rw [← hnm] at c1
        rw [← hpt] at c2
        have d1 : wr.cell? ⟨g, k * 2, none⟩ = some (.string nm) := (BW.out.cell (p := ⟨g, k * 2, none⟩) hg).trans c1
        have d2 : wr.cell? ⟨g, k * 2 + 1, none⟩ = some (.pointer pt) := (BW.out.cell (p := ⟨g, k * 2 + 1, none⟩) hg).trans c2
        have HNM : Hid _ := hnm
        have HPT : Hid _ := hpt
        clear c1 c2 hnm hpt
        go_wp2
        · go_ret
          rename_i hq
          refine ⟨congrArg Ending.returned (congrArg Value.pointer ?_), BW.out.alloc BW.out.size _⟩
          rw [HPT.out]
          exact (find_at l s k (by rw [← HN.out]; exact hlt) NM.out (by rw [← HNM.out]; exact hq)).symm
        · rename_i hq
          go_roundw
          case rel =>
            refine ⟨k + 1, by omega, by go_num, BW.out.alloc BW.out.size _, fun i hi => ?_⟩
            by_cases e : i = k
            · subst e; rw [← HNM.out]; exact hq
            · exact NM.out i (by omega)
          case measure => simp [intOf]; omega
      · have hkn : k = n := by omega
        have R : Hid (findE l s = none) := find_no l s fun i hi => NM.out i (by rw [hkn, HN.out]; exact hi)
        clear NM hkn
        go_wp2
        go_ret
        refine ⟨congrArg Ending.returned (congrArg Value.pointer ?_), BW.out⟩
        exact R.out.symm
end Go.Proofs.Ytnkgfoabadjboaa
