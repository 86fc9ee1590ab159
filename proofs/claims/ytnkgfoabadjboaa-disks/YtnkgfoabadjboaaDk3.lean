/-
  The document's search for a file, and how many bytes the program's files have but for one name (as int counts, modulo 2^64). Conditions: the entries and the files that they point to are there.
-/
import Derived.Test.YtnkgfoabadjboaaDk2
namespace Go.Proofs.Ytnkgfoabadjboaa
open Go.RowKit
set_option linter.unusedVariables false
set_option linter.unusedSimpArgs false
set_option maxHeartbeats 1000000 in
theorem fileOf_any (v : Value) (l : List (ByteArray × Int)) (s : ByteArray) (w : World) (hv : REnts w v l) :
    Calls Try.prog 126 #[v, .string s] w fun e w' => e = .returned (.int .i64 (findR l s)) ∧ w' = w := by
  rcases hv with ⟨rfl, rfl⟩ | ⟨g, cap, rfl, hn, hg, hc⟩
  · go_enter Try.func126, Try.ntmps126
    go_wp2
    refine wp_loop_rounds 1 ?_
    rw [rounds_succ]
    go_wp2
    go_ret
    exact ⟨rfl, rfl⟩
  · obtain ⟨n, hnn⟩ : ∃ n, n = l.length := ⟨_, rfl⟩
    rw [← hnn] at hn ⊢
    have HC : Hid _ := hc
    have HN : Hid _ := hnn
    clear hc hnn
    go_enter Try.func126, Try.ntmps126
    go_wp2
    go_loop [5] (fun iv => ∃ k : Nat, k ≤ n ∧ iv = .int .i64 k ∧ Hid (∀ i, i < k → ((l.getD i rE).1.toList == s.toList) = false)) (fun iv => n - (intOf iv).toNat)
    case atStart => exact ⟨0, by omega, rfl, fun i h => absurd h (by omega)⟩
    case round =>
      obtain ⟨k, hk, rfl, NM⟩ := hrel
      by_cases hlt : k < n
      · obtain ⟨c1, c2⟩ := HC.out k (by rw [← HN.out]; exact hlt)
        obtain ⟨nm, hnm⟩ : ∃ x, x = (l.getD k rE).1 := ⟨_, rfl⟩
        obtain ⟨pt, hpt⟩ : ∃ x, x = (l.getD k rE).2 := ⟨_, rfl⟩
        rw [← hnm] at c1
        rw [← hpt] at c2
        have HNM : Hid _ := hnm
        have HPT : Hid _ := hpt
        clear hnm hpt
        cases hq : (nm.toList == s.toList)
        · go_wp2
          go_round
          case rel =>
            refine ⟨k + 1, by omega, by go_num, fun i hi => ?_⟩
            by_cases e : i = k
            · subst e; rw [← HNM.out]; exact hq
            · exact NM.out i (by omega)
          case measure => simp [intOf]; omega
        · have R : Hid (findR l s = pt) := by
            show _ = _
            rw [HPT.out]
            exact findR_at l s k (by rw [← HN.out]; exact hlt) NM.out (by rw [← HNM.out]; exact hq)
          clear NM
          go_wp2
          go_ret
          refine ⟨congrArg Ending.returned (congrArg (Value.int IntKind.i64) ?_), rfl⟩
          exact R.out.symm
      · have hkn : k = n := by omega
        have R : Hid (findR l s = -1) := findR_no l s fun i hi => NM.out i (by rw [hkn, HN.out]; exact hi)
        clear NM hkn
        go_wp2
        go_ret
        refine ⟨congrArg Ending.returned (congrArg (Value.int IntKind.i64) ?_), rfl⟩
        exact R.out.symm
/-- the bytes of all texts but those under one name -/
def bytesBut (s : ByteArray) (tx : Nat → ByteArray) (l : List (ByteArray × Option Addr)) : Nat → Int
  | 0 => 0
  | k + 1 => bytesBut s tx l k + if ((l.getD k dE).1.toList == s.toList) = true then 0 else ((tx k).size : Int)
theorem bytesBut_succ (s : ByteArray) (tx : Nat → ByteArray) (l : List (ByteArray × Option Addr)) (k : Nat) : bytesBut s tx l (k + 1) = bytesBut s tx l k + if ((l.getD k dE).1.toList == s.toList) = true then 0 else ((tx k).size : Int) := rfl
theorem wrap_zero : wrap64 0 = 0 := by unfold wrap64; omega
theorem bytes_zero (s : ByteArray) (tx : Nat → ByteArray) (l : List (ByteArray × Option Addr)) : (0 : Int) = wrap64 (bytesBut s tx l 0) := by rw [show bytesBut s tx l 0 = 0 from rfl, wrap_zero]
theorem wrap_add (a b : Int) : wrap64 (wrap64 a + b) = wrap64 (a + b) := by unfold wrap64; omega
set_option maxHeartbeats 1000000 in
theorem used_any (B : Nat) (v : Value) (l : List (ByteArray × Option Addr)) (tx : Nat → ByteArray) (s : ByteArray) (w : World) (hB : B < w.heap.size) (h0 : w.cell? ⟨B, 0, none⟩ = some v) (hv : Ents w v l)
    (hf : ∀ i, i < l.length → ∃ b, (l.getD i dE).2 = some ⟨b, 0, none⟩ ∧ b < w.heap.size ∧ w.cell? ⟨b, 0, none⟩ = some (.string (tx i)) ∧ (tx i).size ≤ maxLen) :
    Calls Try.prog 121 #[.pointer (some ⟨B, 0, none⟩), .string s] w fun e w' => e = .returned (.int .i64 (wrap64 (bytesBut s tx l l.length))) ∧ Below w.heap.size w w' := by
  rcases hv with ⟨rfl, rfl⟩ | ⟨g, cap, rfl, hn, hg, hc⟩
  · go_enter Try.func121, Try.ntmps121
    go_wp2
    refine wp_loop_rounds 1 ?_
    rw [rounds_succ]
    go_wp2
    go_ret
    exact ⟨ret_int (bytes_zero s tx []), Below.refl _ _⟩
  · obtain ⟨n, hnn⟩ : ∃ n, n = l.length := ⟨_, rfl⟩
    rw [← hnn] at hn h0 ⊢
    have HC : Hid _ := hc
    have HN : Hid _ := hnn
    have HF : Hid _ := hf
    clear hc hnn hf
    go_enter Try.func121, Try.ntmps121
    go_wp2
    go_loopw [5, 13] (fun nv iv wr => ∃ k : Nat, k ≤ n ∧ iv = .int .i64 k ∧ nv = .int .i64 (wrap64 (bytesBut s tx l k)) ∧ Hid (Below w.heap.size w wr)) (fun _ iv _ => n - (intOf iv).toNat)
    case atStart => exact ⟨0, by omega, rfl, congrArg _ (bytes_zero s tx l), Below.refl _ _⟩
    case round =>
      obtain ⟨k, hk, rfl, rfl, BW⟩ := hrel
      by_cases hlt : k < n
      · obtain ⟨c1, c2⟩ := HC.out k (by rw [← HN.out]; exact hlt)
        obtain ⟨b, e1, e2, e3, e4⟩ := HF.out k (by rw [← HN.out]; exact hlt)
        unfold maxLen at e4
        rw [e1] at c2
        have R : Hid (bytesBut s tx l (k + 1) = bytesBut s tx l k + if ((l.getD k dE).1.toList == s.toList) = true then 0 else ((tx k).size : Int)) := bytesBut_succ s tx l k
        obtain ⟨nm, hnm⟩ : ∃ x, x = (l.getD k dE).1 := ⟨_, rfl⟩
        obtain ⟨t, ht⟩ : ∃ x, x = tx k := ⟨_, rfl⟩
        obtain ⟨N, hN⟩ : ∃ x, x = bytesBut s tx l k := ⟨_, rfl⟩
        rw [← hnm] at c1 R
        rw [← ht] at e3 e4 R
        rw [← hN] at R ⊢
        have d1 : wr.cell? ⟨g, k * 2, none⟩ = some (.string nm) := (BW.out.cell (p := ⟨g, k * 2, none⟩) hg).trans c1
        have d2 : wr.cell? ⟨g, k * 2 + 1, none⟩ = some (.pointer (some ⟨b, 0, none⟩)) := (BW.out.cell (p := ⟨g, k * 2 + 1, none⟩) hg).trans c2
        have d3 : wr.cell? ⟨b, 0, none⟩ = some (.string t) := (BW.out.cell (p := ⟨b, 0, none⟩) e2).trans e3
        have hbs : b < wr.heap.size := Nat.lt_of_lt_of_le e2 BW.out.size
        clear c1 c2 e1 e3 hnm ht hN
        cases hq : (nm.toList == s.toList)
        · have R' : Hid (wrap64 (bytesBut s tx l (k + 1)) = wrap64 (wrap64 N + (t.size : Int))) := by
            show _ = _
            rw [R.out, hq, wrap_add]; rfl
          clear R
          go_wp2
          go_roundw
          case rel => exact ⟨k + 1, by omega, by go_num, congrArg _ R'.out.symm, BW.out.alloc BW.out.size _⟩
          case measure => simp [intOf]; omega
        · have R' : Hid (bytesBut s tx l (k + 1) = N) := by
            show _ = _
            rw [R.out, hq]; simp
          clear R
          go_wp2
          go_roundw
          case rel => exact ⟨k + 1, by omega, by go_num, by rw [R'.out], BW.out.alloc BW.out.size _⟩
          case measure => simp [intOf]; omega
      · have hkn : k = l.length := by rw [← HN.out]; omega
        have R : Hid _ := congrArg (fun x => wrap64 (bytesBut s tx l x)) hkn
        clear hkn
        go_wp2
        go_ret
        refine ⟨congrArg Ending.returned (congrArg (Value.int IntKind.i64) ?_), BW.out⟩
        rw [HN.out]; exact R.out
end Go.Proofs.Ytnkgfoabadjboaa
