/-
  Each plain function on states keeps what a plain state must be like, with room for one entry more. Conditions: those that each law names.
-/
import Derived.Test.YtnkgfoabadjboaaDk26
namespace Go.Proofs.Ytnkgfoabadjboaa
open Go.RowKit
set_option linter.unusedVariables false
set_option linter.unusedSimpArgs false
theorem St.Ok.mono {S : St} {m n : Nat} (k : S.Ok m) (h : m ≤ n) : S.Ok n where
  len := k.len
  nums := k.nums
  nums2 := k.nums2
  nums3 := k.nums3
  rise := k.rise
  rise2 := k.rise2
  tx := k.tx
  tx2 := k.tx2
  ln := Nat.le_trans k.ln h
  ls := Nat.le_trans k.ls h
  lf := Nat.le_trans k.lf h
  l0 := k.l0
  r0 := k.r0
theorem St.Ok.next {S : St} {m : Nat} (k : S.Ok m) : S.Ok (m + 1) := k.mono (Nat.le_succ m)
theorem chg_ok {S : St} {m : Nat} (k : S.Ok m) (c : Chg) (hc : ∀ i, c.2.2 = some i → i < S.now.length) : (chgS S c).Ok (m + 1) where
  len := k.len
  nums e he := by
    rcases turnN_mem he with h | h
    · exact k.nums e h
    · exact hc _ h
  nums2 := k.nums2
  nums3 c' hc' i hi := by
    rcases List.mem_append.1 hc' with h | h
    · exact k.nums3 _ h i hi
    · rw [List.mem_singleton.1 h] at hi; exact hc i hi
  rise := turnN_rising k.rise c
  rise2 := k.rise2
  tx := k.tx
  tx2 := k.tx2
  ln := by have h1 := turnN_length S.names c; have h2 := k.ln; show (turnN S.names c).length ≤ _; omega
  ls := by have h2 := k.ls; show S.safe.length + (S.chg ++ [c]).length ≤ _; rw [List.length_append, List.length_singleton]; omega
  lf := Nat.le_succ_of_le k.lf
  l0 := k.l0
  r0 := k.r0
theorem put_ok {S : St} {m : Nat} (k : S.Ok m) (i : Nat) (t : ByteArray) (ht : t.size < 4611686018427387904) : (putN S i t).Ok m where
  len := by simp [putN, k.len]
  nums e he := by simpa [putN] using k.nums e he
  nums2 e he := by simpa [putN] using k.nums2 e he
  nums3 c hc j hj := by simpa [putN] using k.nums3 c hc j hj
  rise := k.rise
  rise2 := k.rise2
  tx := fun x hx => by rcases mem_set hx with h | h; exact k.tx x h; rw [h]; exact ht
  tx2 := k.tx2
  ln := k.ln
  ls := k.ls
  lf := by simpa [putN] using k.lf
  l0 := k.l0
  r0 := k.r0
theorem new_ok {S : St} {m : Nat} (k : S.Ok m) (s : ByteArray) : (chgS (newF S) (s, s, some S.now.length)).Ok (m + 1) := by
  have h := chg_ok (S := newF S) (m := m + 1) k.newF (s, s, some S.now.length) (fun i hi => by
    have e : S.now.length = i := by simpa using hi
    simp [newF, ← e])
  have h1 := turnN_length S.names (s, s, some S.now.length)
  have h2 := k.ln
  have h3 := k.ls
  have h4 := k.lf
  exact {
    len := h.len
    nums := h.nums
    nums2 := h.nums2
    nums3 := h.nums3
    rise := h.rise
    rise2 := h.rise2
    tx := h.tx
    tx2 := h.tx2
    ln := by
      have e : (chgS (newF S) (s, s, some S.now.length)).names = turnN S.names (s, s, some S.now.length) := rfl
      rw [e]; omega
    ls := by
      have e : (chgS (newF S) (s, s, some S.now.length)).safe = S.safe ∧ (chgS (newF S) (s, s, some S.now.length)).chg = S.chg ++ [(s, s, some S.now.length)] := ⟨rfl, rfl⟩
      rw [e.1, e.2, List.length_append, List.length_singleton]; omega
    lf := by
      have e : (chgS (newF S) (s, s, some S.now.length)).now = S.now ++ [ByteArray.empty] := rfl
      rw [e, List.length_append, List.length_singleton]; omega
    l0 := h.l0
    r0 := h.r0 }
theorem wr_ok {S : St} {m : Nat} (k : S.Ok m) (s t : ByteArray) (ht : t.size < 4611686018427387904) : (wrS S s t).Ok (m + 1) := by
  unfold wrS
  split
  · exact k.next
  · split
    · exact k.op.next
    · split
      · exact k.op.next
      · cases hf : findN S.names s with
        | some i => exact (put_ok k.op i t ht).next
        | none => exact put_ok (new_ok k.op s) _ t ht
theorem sync_ok {S : St} {m : Nat} (k : S.Ok m) (s : ByteArray) : (syncS S s).Ok (m + 1) := by
  unfold syncS
  split
  · exact k.next
  · cases hf : findN S.names s with
    | none => exact k.op.next
    | some i =>
      have hi := find_lt k hf
      have hN := now_lt k hi
      have q := k.op.next
      exact {
        len := by show (S.kept.set i _).length = S.now.length; rw [List.length_set]; exact k.len
        nums := q.nums
        nums2 := q.nums2
        nums3 := q.nums3
        rise := q.rise
        rise2 := q.rise2
        tx := q.tx
        tx2 := fun x hx => by rcases mem_set hx with h | h; exact k.tx2 x h; rw [h]; exact hN
        ln := q.ln
        ls := q.ls
        lf := q.lf
        l0 := q.l0
        r0 := q.r0 }
theorem ren_ok {S : St} {m : Nat} (k : S.Ok m) (a b : ByteArray) : (renS S a b).Ok (m + 1) := by
  unfold renS
  split
  · exact k.next
  · cases hf : findN S.names a with
    | none => exact k.op.next
    | some i =>
      have hi := find_lt k hf
      show (if isNm b = true then chgS (opS S) (a, b, some i) else opS S).Ok (m + 1)
      split
      · exact chg_ok k.op _ (fun j hj => by have e : i = j := by simpa using hj
                                            rw [← e]; exact hi)
      · exact k.op.next
theorem rem_ok {S : St} {m : Nat} (k : S.Ok m) (a : ByteArray) : (remS S a).Ok (m + 1) := by
  unfold remS
  split
  · exact k.next
  · cases hf : findN S.names a with
    | none => exact k.op.next
    | some i => exact chg_ok k.op _ (fun j hj => by simp at hj)
theorem sn_ok {S : St} {m : Nat} (k : S.Ok m) : (snS S).Ok (m + 1) := by
  unfold snS
  split
  · exact k.next
  · have q := k.op.next
    exact {
      len := q.len
      nums := q.nums
      nums2 := q.nums
      nums3 := fun c hc => by cases hc
      rise := q.rise
      rise2 := q.rise
      tx := q.tx
      tx2 := q.tx2
      ln := q.ln
      ls := by have h := q.ln; show S.names.length + 0 ≤ _; exact h
      lf := q.lf
      l0 := q.l0
      r0 := q.r0 }
theorem bnd_in (a : Int) (h : a ≤ 9223372036854775807) : -1 ≤ bnd a ∧ bnd a ≤ 9223372036854775807 := by unfold bnd; split <;> omega
theorem lim_ok {S : St} {m : Nat} (k : S.Ok m) (a b : Int) (ha : a ≤ 9223372036854775807) (hb : b ≤ 9223372036854775807) : (limS S a b).Ok (m + 1) :=
  { k.next with l0 := bnd_in a ha, r0 := bnd_in b hb }
theorem bend_ok {S : St} {m : Nat} (k : S.Ok m) (s : ByteArray) (a v : Int) : (bendS S s a v).Ok (m + 1) := by
  unfold bendS
  cases hf : findN S.names s with
  | none => exact k.next
  | some i =>
    have hi := find_lt k hf
    have hN := now_lt k hi
    have hK := kept_lt k hi
    have q := k.next
    exact {
      len := by show (S.kept.set i _).length = (S.now.set i _).length; rw [List.length_set, List.length_set]; exact k.len
      nums := fun e he => by show _ < (S.now.set i _).length; rw [List.length_set]; exact k.nums e he
      nums2 := fun e he => by show _ < (S.now.set i _).length; rw [List.length_set]; exact k.nums2 e he
      nums3 := fun c hc j hj => by show _ < (S.now.set i _).length; rw [List.length_set]; exact k.nums3 c hc j hj
      rise := q.rise
      rise2 := q.rise2
      tx := fun x hx => by rcases mem_set hx with h | h; exact k.tx x h; rw [h, bentB_size]; exact hN
      tx2 := fun x hx => by rcases mem_set hx with h | h; exact k.tx2 x h; rw [h, bentB_size]; exact hK
      ln := q.ln
      ls := q.ls
      lf := by show (S.now.set i _).length ≤ _; rw [List.length_set]; exact q.lf
      l0 := q.l0
      r0 := q.r0 }
end Go.Proofs.Ytnkgfoabadjboaa
