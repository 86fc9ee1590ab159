/-
  A directory's entries behind a change, as the program makes them: those that stay and the new one, sorted by name. Conditions: the entries are there; fewer than 2^42.
-/
import Derived.Test.YtnkgfoabadjboaaDk6
import Derived.Test.YtnkgfoabadjboaaSort
import Derived.Shelf.SlSortCmp.NoneTotal
import Derived.OwnWalk
import Derived.Deep.AppendLies
import Derived.Laws.OwnMore
import Derived.Lib.SmallJoins
namespace Go.Proofs.Ytnkgfoabadjboaa
open Go.RowKit
set_option linter.unusedVariables false
set_option linter.unusedSimpArgs false
abbrev PE := ByteArray × Option Addr
def encE (e : PE) : List Value := [.string e.1, .pointer e.2]
def flatE (l : List PE) : List Value := l.flatMap encE
theorem flatE_cons (a : PE) (t : List PE) : flatE (a :: t) = .string a.1 :: .pointer a.2 :: flatE t := rfl
theorem flatE_app (l m : List PE) : flatE (l ++ m) = flatE l ++ flatE m := by simp [flatE]
theorem flatE_len (l : List PE) : (flatE l).length = l.length * 2 := by
  induction l with
  | nil => rfl
  | cons a t ih => rw [flatE_cons]; simp [ih]; omega
theorem flatE_at (l : List PE) (i : Nat) (hi : i < l.length) : (flatE l)[i * 2]? = some (.string (l.getD i dE).1) ∧ (flatE l)[i * 2 + 1]? = some (.pointer (l.getD i dE).2) := by
  induction l generalizing i with
  | nil => simp at hi
  | cons a t ih =>
    cases i with
    | zero => exact ⟨rfl, rfl⟩
    | succ i =>
      have := ih i (by simpa using hi)
      rw [flatE_cons, show (i + 1) * 2 = i * 2 + 1 + 1 by omega, List.getElem?_cons_succ, List.getElem?_cons_succ, show i * 2 + 1 + 1 + 1 = (i * 2 + 1) + 1 + 1 by omega, List.getElem?_cons_succ, List.getElem?_cons_succ]
      exact this
theorem ents_of {w : World} {base : Nat} {v : Value} {l : List PE} (h : w.ownsRow base 138 2 v l.length (flatE l)) (hl : l.length < 4611686018427387904) : Ents w v l := by
  rcases Go.Joins.ownsRow_forms h with ⟨rfl, h0⟩ | ⟨g, cap, rfl⟩
  · exact Or.inl ⟨rfl, List.eq_nil_of_length_eq_zero h0⟩
  · refine Or.inr ⟨g, cap, rfl, hl, (h.lt g rfl).2, fun i hi => ?_⟩
    obtain ⟨a, b⟩ := flatE_at l i hi
    exact ⟨(h.cellAt (i * 2) (by omega)).trans a, (h.cellAt (i * 2 + 1) (by omega)).trans b⟩
instance : Inhabited PE := ⟨dE⟩
theorem flatK_flatE (l : List PE) : (Go.Sort.flatK encE 2 l.toArray).toList = flatE l := by
  apply List.ext_getElem?
  intro t
  by_cases ht : t < l.length * 2
  · have e1 : (Go.Sort.flatK encE 2 l.toArray).toList[t]? = some ((encE (l.toArray[t / 2]!))[t % 2]!) := by
      rw [Array.getElem?_toList, Array.getElem?_eq_getElem (by simpa using ht), ← Go.Sort.get_flatK encE 2 l.toArray t (by simpa using ht), getElem!_pos _ t (by simpa using ht)]
    rw [e1]
    have hi : t / 2 < l.length := by omega
    have e2 : l.toArray[t / 2]! = l.getD (t / 2) dE := by
      rw [getElem!_pos _ _ (by simpa using hi), List.getD_eq_getElem?_getD, List.getElem?_eq_getElem hi]; simp
    rw [e2]
    obtain ⟨a, b⟩ := flatE_at l (t / 2) hi
    rcases Nat.mod_two_eq_zero_or_one t with h | h
    · rw [h, show t = t / 2 * 2 by omega]
      rw [show t / 2 * 2 / 2 = t / 2 by omega]
      exact a.symm
    · rw [h]
      rw [show (flatE l)[t]? = (flatE l)[t / 2 * 2 + 1]? by rw [show t / 2 * 2 + 1 = t by omega]]
      exact b.symm
  · rw [List.getElem?_eq_none (by rw [Array.length_toList, Go.Sort.size_flatK]; simpa using ht), List.getElem?_eq_none (by rw [flatE_len]; omega)]
/-! the comparison -/
def cmpE (a b : PE) : Int := if ltN a.1 b.1 = true then -1 else 1
theorem cmpE_lt (a b : PE) : Go.Proofs.ltOf cmpE a b = ltN a.1 b.1 := by
  unfold Go.Proofs.ltOf cmpE
  cases h : ltN a.1 b.1 <;> simp
theorem cmpE_swo : Go.Sort.SWO (Go.Proofs.ltOf cmpE) where
  irrefl x := by rw [cmpE_lt]; exact ltN_irrefl _
  trans x y z h1 h2 := by rw [cmpE_lt] at *; exact ltN_trans h1 h2
  ntrans x y z h1 h2 := by rw [cmpE_lt] at *; exact ltN_ntrans h1 h2
set_option maxHeartbeats 1000000 in
theorem cmp_any (a b : PE) (w : World) :
    Calls Try.prog 145 #[.agg (encE a).toArray, .agg (encE b).toArray] w fun e w' => e = .returned (.int .i64 (cmpE a b)) ∧ ∃ os, w' = Go.Sort.grow w os := by
  obtain ⟨s, p⟩ := a
  obtain ⟨t, q⟩ := b
  have G : Hid ((w.alloc (.cells #[.string s, .pointer p] 138)).alloc (.cells #[.string t, .pointer q] 138) = Go.Sort.grow w #[.cells #[.string s, .pointer p] 138, .cells #[.string t, .pointer q] 138]) := by
    show _ = _
    rw [Go.Sort.alloc_eq_grow, Go.Sort.alloc_eq_grow, Go.Sort.grow_grow]; rfl
  have E : Hid (cmpE (s, p) (t, q) = if Op.bytesLess s.toList t.toList = true then -1 else 1) := rfl
  unfold encE
  cases hq : Op.bytesLess s.toList t.toList
  · have R : Hid (cmpE (s, p) (t, q) = 1) := by show _ = _; rw [E.out, hq]; rfl
    clear E
    go_enter Try.func145, Try.ntmps145
    go_wp2
    go_ret
    exact ⟨ret_int R.out.symm, _, G.out⟩
  · have R : Hid (cmpE (s, p) (t, q) = -1) := by show _ = _; rw [E.out, hq]; rfl
    clear E
    go_enter Try.func145, Try.ntmps145
    go_wp2
    go_ret
    exact ⟨ret_int R.out.symm, _, G.out⟩
theorem holds_of {w : World} {base g cap : Nat} {l : List PE} (h : w.ownsRow base 138 2 (.slice (some ⟨g, 0, none⟩) l.length cap) l.length (flatE l)) : Go.Sort.HoldsK encE 2 w g 0 l.toArray := by
  intro j hj
  have hj' : j < l.length * 2 := by simpa using hj
  refine ⟨?_, by rw [Nat.zero_add]; exact h.frozenAt j⟩
  rw [Nat.zero_add, h.cellAt j hj', ← flatK_flatE, Array.getElem?_toList, Array.getElem?_eq_getElem hj, getElem!_pos _ j hj]
  rfl
theorem owns_sorted {w : World} {base g cap m : Nat} {l : List PE} (d' : Array PE) (os : Array Obj) (h : w.ownsRow base 138 2 (.slice (some ⟨g, 0, none⟩) l.length cap) l.length (flatE l)) (hd : d'.size = l.length) :
    (Go.Proofs.sortWorldK encE 2 w g 0 m d' os).ownsRow base 138 2 (.slice (some ⟨g, 0, none⟩) l.length cap) l.length (flatE d'.toList) ∧ w.grownBy (Go.Proofs.sortWorldK encE 2 w g 0 m d' os) (some g) := by
  rcases h.2 with ⟨e0, _⟩ | ⟨g', cap', cur, e0, hb, hg, hn, hm, hs, ht⟩
  · cases e0
  · injection e0 with e1 _ e3
    injection e1 with e1
    injection e1 with e1
    subst e1; subst e3
    have hlt : g < w.heap.size := (Array.getElem?_eq_some_iff.1 hg).1
    have hz : (Go.Sort.putRow id (Go.Sort.ahead w m) g 0 (Go.Sort.flatK encE 2 d')).heap.size = w.heap.size := by simp [Go.Sort.putRow, Go.Sort.mapBlock, Go.Sort.ahead]
    have hblk : ∀ k, k < w.heap.size → (Go.Proofs.sortWorldK encE 2 w g 0 m d' os).heap[k]? = (Go.Sort.putRow id (Go.Sort.ahead w m) g 0 (Go.Sort.flatK encE 2 d')).heap[k]? := by
      intro k hk
      show ((Go.Sort.putRow id (Go.Sort.ahead w m) g 0 (Go.Sort.flatK encE 2 d')).heap ++ os)[k]? = _
      rw [Array.getElem?_append_left (by rw [hz]; exact hk)]
    have hfe : (Go.Sort.flatK encE 2 d').toList = flatE d'.toList := by have := flatK_flatE d'.toList; rwa [Array.toArray_toList] at this
    have hfs : (Go.Sort.flatK encE 2 d').size = l.length * 2 := by rw [Go.Sort.size_flatK, hd]
    refine ⟨⟨by rw [flatE_len, Array.length_toList, hd], .inr ⟨g, cap, Go.Sort.putCells id 0 (Go.Sort.flatK encE 2 d') cur, rfl, hb, ?_, hn, hm, by simpa [Go.Sort.putCells] using hs, ?_⟩⟩, ⟨rfl, rfl, rfl, ?_, ?_⟩⟩
    · rw [hblk g hlt]
      simp [Go.Sort.putRow, Go.Sort.mapBlock, Go.Sort.ahead, Array.getElem?_modify, hg, Go.Sort.onCells]
    · rw [← hfe]
      apply List.ext_getElem?
      intro j
      rw [List.getElem?_take]
      by_cases hj : j < l.length * 2
      · have hjc : j < cur.size := by omega
        rw [if_pos hj, Array.getElem?_toList, Array.getElem?_toList]
        simp only [Go.Sort.putCells, Array.getElem?_mapIdx, Array.getElem?_eq_getElem hjc, Option.map_some]
        rw [if_pos (by rw [hfs]; omega), Array.getElem?_eq_getElem (by rw [hfs]; exact hj)]
        rw [Nat.sub_zero, getElem!_pos _ j (by rw [hfs]; exact hj)]
        rfl
      · rw [if_neg hj, List.getElem?_eq_none (by rw [Array.length_toList, hfs]; omega)]
    · show w.heap.size ≤ ((Go.Sort.putRow id (Go.Sort.ahead w m) g 0 (Go.Sort.flatK encE 2 d')).heap ++ os).size
      rw [Array.size_append, hz]; omega
    · intro k hk hne
      rw [hblk k hk]
      have : g ≠ k := fun e => hne (by rw [e])
      simp [Go.Sort.putRow, Go.Sort.mapBlock, Go.Sort.ahead, Array.getElem?_modify, this]
theorem sort_any (base g cap : Nat) (l : List PE) (w : World) (h : w.ownsRow base 138 2 (.slice (some ⟨g, 0, none⟩) l.length cap) l.length (flatE l)) (hl : l.length < 4611686018427387904) :
    Calls Try.prog 144 #[.slice (some ⟨g, 0, none⟩) l.length cap, .func (.func 145) #[] #[]] w fun e w' => e = .returned (.tuple #[]) ∧ ∃ l' : List PE, l'.Perm l ∧ l'.Pairwise (fun a b => ltN b.1 a.1 = false) ∧ w'.ownsRow base 138 2 (.slice (some ⟨g, 0, none⟩) l.length cap) l.length (flatE l') ∧ w.grownBy w' (some g) := by
  have hc : Go.Proofs.CmpLays Try.prog 145 #[] encE 2 cmpE g 0 l.toArray.size w := fun m os dk hs x y =>
    (cmp_any x y _).mono fun e w' ⟨he, os', hw⟩ => ⟨he, 0, os', hw⟩
  have e0 : l.toArray.size = l.length := by simp
  have := AnyQ.slices_SortFunc Try.sortE 2 Try.isAgg138 Try.sizeOf138 encE (fun _ => rfl) (fun x v hv => by simp [encE] at hv; rcases hv with rfl | rfl <;> rfl) cmpE cmpE_swo 145 #[] g 0 cap l.toArray w
    (Go.Proofs.enters_of Try.func145 (by kernel_rfl) rfl) hc (holds_of h) (h.lt g rfl).2 (by rw [e0]; exact hl)
  rw [e0] at this
  refine this.mono fun e w' ⟨he, d', n, os, hp, hs, hw⟩ => ⟨he, d'.toList, ?_, ?_, ?_⟩
  · have := hp.2.2
    have hsz : d'.size = l.length := by rw [hp.1, e0]
    rw [Array.extract_eq_self_of_le (by omega), Array.extract_eq_self_of_le (by omega)] at this
    simpa using this
  · have hsz : d'.size = l.length := by rw [hp.1, e0]
    rw [List.pairwise_iff_getElem]
    intro i j hi hj hij
    have hi' : i < d'.size := by simpa using hi
    have hj' : j < d'.size := by simpa using hj
    have := hs i j (Nat.zero_le _) hij (by omega)
    rw [cmpE_lt, getElem!_pos _ j hj', getElem!_pos _ i hi'] at this
    simpa using this
  · have hsz : d'.size = l.length := by rw [hp.1, e0]
    rw [hw]
    exact owns_sorted d' os h hsz
theorem sort_anyN (base g cap n : Nat) (l : List PE) (w : World) (hn : l.length = n) (h : w.ownsRow base 138 2 (.slice (some ⟨g, 0, none⟩) n cap) n (flatE l)) (hl : n < 4611686018427387904) :
    Calls Try.prog 144 #[.slice (some ⟨g, 0, none⟩) n cap, .func (.func 145) #[] #[]] w fun e w' => e = .returned (.tuple #[]) ∧ ∃ l' : List PE, l'.Perm l ∧ l'.Pairwise (fun a b => ltN b.1 a.1 = false) ∧ w'.ownsRow base 138 2 (.slice (some ⟨g, 0, none⟩) n cap) n (flatE l') ∧ w.grownBy w' (some g) := by
  subst hn
  exact sort_any base g cap l w h hl
end Go.Proofs.Ytnkgfoabadjboaa
