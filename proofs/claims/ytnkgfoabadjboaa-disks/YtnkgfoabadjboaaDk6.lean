/-
  A text with four bytes bent, of the program and of the document: one text. Conditions: the length is an int; the number that bends is below 2^32.
-/
import Derived.Test.YtnkgfoabadjboaaDk5
namespace Go.Proofs.Ytnkgfoabadjboaa
open Go.RowKit
set_option linter.unusedVariables false
set_option linter.unusedSimpArgs false
def bentL (L : List UInt8) (a : Nat) (v : Int) (k : Nat) : List UInt8 := L.mapIdx fun j x => if a ≤ j ∧ j < a + k then x ^^^ byteAt v (j - a) else x
def bentB (s : ByteArray) (at_ : Int) (v : Int) : ByteArray := if at_ < 0 ∨ (s.size : Int) - 4 < at_ then s else ⟨(bentL s.data.toList at_.toNat v 4).toArray⟩
theorem bentB_size (s : ByteArray) (a v : Int) : (bentB s a v).size = s.size := by
  unfold bentB
  split
  · rfl
  · rw [ba_size]; simp [bentL]
theorem xor_hi (x y : Nat) (n : Nat) : (x ^^^ y) / 2 ^ n = x / 2 ^ n ^^^ y / 2 ^ n := by
  rw [← Nat.shiftRight_eq_div_pow, ← Nat.shiftRight_eq_div_pow, ← Nat.shiftRight_eq_div_pow, Nat.shiftRight_xor_distrib]
theorem xor_lo (x y : Nat) (n : Nat) : (x ^^^ y) % 2 ^ n = x % 2 ^ n ^^^ y % 2 ^ n := Nat.xor_mod_two_pow
theorem pow256 (k : Nat) : 256 ^ k = 2 ^ (8 * k) := by rw [show 256 = 2 ^ 8 from rfl, ← Nat.pow_mul]
theorem byteAt_xor (u v : Int) (k : Nat) (h0 : 0 ≤ u) (h1 : 0 ≤ v) : byteAt (xorN u v) k = byteAt u k ^^^ byteAt v k := by
  apply UInt8.toNat_inj.1
  rw [UInt8.toNat_xor, byteAt_nat, byteAt_nat, byteAt_nat]
  unfold xorN
  rw [Int.toNat_natCast, pow256, xor_hi, show 256 = 2 ^ 8 from rfl, xor_lo]
theorem byteAt_word (s : ByteArray) (a k : Nat) (hk : k < 4) (h : a + 3 < s.size) : byteAt (wordN s a) k = s.data.toList.getD (a + k) 0 := by
  apply UInt8.toNat_inj.1
  rw [byteAt_nat]
  have b0 := byt_lt s a
  have b1 := byt_lt s (a + 1)
  have b2 := byt_lt s (a + 2)
  have b3 := byt_lt s (a + 3)
  have e : ((s.data.toList.getD (a + k) 0).toNat : Int) = byt s (a + k) := rfl
  unfold wordN
  match k, hk with
  | 0, _ => simp only [Nat.add_zero, Nat.sub_zero] at *; omega
  | 1, _ => simp only [show (3 - 1) = 2 from rfl] at *; omega
  | 2, _ => simp only [show (3 - 2) = 1 from rfl] at *; omega
  | 3, _ => simp only [show (3 - 3) = 0 from rfl, Nat.pow_zero, Nat.div_one] at *; omega
theorem bentText_list (s : ByteArray) (a : Nat) (v : Int) (hv : 0 ≤ v) (h : a + 3 < s.size) :
    s.extract 0 a ++ fourB (xorN (wordN s a) v) ++ s.extract (a + 4) s.size = ⟨(bentL s.data.toList a v 4).toArray⟩ := by
  apply ba_ext
  rw [app_list, app_list, ext_list, ext_list]
  have hl : s.data.toList.length = s.size := (ba_size s).symm
  have hw := (wordN_lt s a).1
  apply List.ext_getElem
  · simp [fourB, bentL]; omega
  · intro j h1 h2
    have hj : j < s.size := by simp [bentL] at h2; exact h2
    simp only [bentL, List.getElem_mapIdx]
    have g : ∀ i (hi : i < s.data.toList.length), s.data.toList.getD i 0 = s.data.toList[i] := fun i hi => by rw [List.getD_eq_getElem?_getD, List.getElem?_eq_getElem hi]; rfl
    by_cases c1 : j < a
    · rw [if_neg (by omega), List.getElem_append_left (by simp; omega), List.getElem_append_left (by simp; omega)]
      simp
    · by_cases c2 : j < a + 4
      · rw [if_pos (by omega), List.getElem_append_left (by simp [fourB]; omega), List.getElem_append_right (by simp; omega)]
        have e1 : (List.take (a - 0) (List.drop 0 s.data.toList)).length = a := by simp; omega
        have e2 : ∀ i (hi : i < (fourB (xorN (wordN s a) v)).data.toList.length), (fourB (xorN (wordN s a) v)).data.toList[i] = byteAt (xorN (wordN s a) v) i := by
          intro i hi
          have : i < 4 := by simpa [fourB] using hi
          match i, this with
          | 0, _ => rfl
          | 1, _ => rfl
          | 2, _ => rfl
          | 3, _ => rfl
        rw [e2]
        simp only [e1]
        rw [byteAt_xor _ _ _ hw hv, byteAt_word s a _ (by omega) h, g _ (by omega)]
        simp only [show a + (j - a) = j by omega]
      · rw [if_neg (by omega), List.getElem_append_right (by simp [fourB]; omega)]
        simp [fourB]
        congr 1
        omega
set_option maxHeartbeats 1000000 in
theorem bentText_any (s : ByteArray) (a v : Int) (w : World) (hs : s.size < 4611686018427387904) (hv0 : 0 ≤ v) (hv1 : v < 4294967296) :
    Calls Try.prog 136 #[.string s, .int .i64 a, .int .i64 v] w fun e w' => e = .returned (.string (bentB s a v)) ∧ Below w.heap.size w w' := by
  by_cases h0 : a < 0
  · have R : Hid (s = bentB s a v) := by show _ = _; unfold bentB; rw [if_pos (Or.inl h0)]
    go_enter Try.func136, Try.ntmps136
    go_wp2
    go_ret
    exact ⟨ret_str R.out, Below.refl _ _⟩
  · by_cases h1 : (s.size : Int) - 4 < a
    · have R : Hid (s = bentB s a v) := by show _ = _; unfold bentB; rw [if_pos (Or.inr h1)]
      go_enter Try.func136, Try.ntmps136
      go_wp2
      go_ret
      exact ⟨ret_str R.out, Below.refl _ _⟩
    · have R : Hid (s.extract 0 a.toNat ++ fourB (xorN (wordN s a.toNat) v) ++ s.extract (a.toNat + 4) s.size = bentB s a v) := by
        show _ = _
        unfold bentB; rw [if_neg (by omega)]; exact bentText_list s a.toNat v hv0 (by omega)
      have w0 : Hid _ := (wordN_lt s a.toNat)
      have x0 : Hid (0 ≤ xorN (wordN s a.toNat) v ∧ xorN (wordN s a.toNat) v < 4294967296) := by
        have := w0.out
        unfold xorN
        have : (wordN s a.toNat).toNat ^^^ v.toNat < 2 ^ 32 := Nat.xor_lt_two_pow (by omega) (by omega)
        exact ⟨by omega, by omega⟩
      have q1 : (0 : Int) ≤ a := by omega
      have q2 : a ≤ (s.size : Int) := by omega
      have q3 : (0 : Int) ≤ a + 4 := by omega
      have q4 : a + 4 ≤ (s.size : Int) := by omega
      have q5 : a + 4 ≤ 9223372036854775807 := by omega
      have q6 : (a + 4).toNat = a.toNat + 4 := by omega
      have q7 : IntKind.i64.wrap (a + 4) = a + 4 := by rw [IntKind.wrap_i64]; omega
      have f4 : ∀ u, (fourB u).size = 4 := fun _ => rfl
      have g1 : ¬ 9223372036854775807 < a.toNat + 4 := by omega
      have g2 : ¬ 9223372036854775807 < a.toNat + 4 + (s.size - (a.toNat + 4)) := by omega
      go_enter Try.func136, Try.ntmps136
      go_wp2
      go_region_held3 (fun w' => True) (trivial) (first
        | (go_at_call 147; refine (word_any s a _ (by unfold maxLen; omega) q1 (by omega)).mono ?_; rintro e w' ⟨rfl, nn, rfl⟩)
        | (go_at_call 140; refine (xor_any _ v _ w0.out.1 w0.out.2 hv0 hv1).mono ?_; rintro e w' ⟨rfl, rfl⟩)
        | (go_at_call 146; refine (bytes_any _ _ x0.out.1 x0.out.2).mono ?_; rintro e w' ⟨rfl, hb⟩))
      all_goals go_wp2
      go_ret
      exact ⟨ret_str R.out, hb.os, hb.tape, hb.output, hb.size, hb.block⟩
/-! the program's -/
def RowB (s : ByteArray) (a : Nat) (v : Int) (k : Nat) (n : Nat) (cur : Array Value) : Prop := cur.size = n ∧ s.size ≤ n ∧ ∀ j, j < s.size → cur[j]? = some (.int .u8 (((bentL s.data.toList a v k).getD j 0).toNat : Int))
theorem bentL_get (L : List UInt8) (a : Nat) (v : Int) (k j : Nat) (hj : j < L.length) : (bentL L a v k).getD j 0 = if a ≤ j ∧ j < a + k then L.getD j 0 ^^^ byteAt v (j - a) else L.getD j 0 := by
  rw [List.getD_eq_getElem?_getD, List.getD_eq_getElem?_getD, List.getElem?_eq_getElem (by simp [bentL]; exact hj), List.getElem?_eq_getElem hj]
  simp [bentL]
theorem RowB.start (s : ByteArray) (a : Nat) (v : Int) (c : Nat) (hc : s.size ≤ c) : RowB s a v 0 (bytesRow s c).size (bytesRow s c) := by
  refine ⟨rfl, by simp [bytesRow], fun j hj => ?_⟩
  rw [bytesRow_at s c j hj, bentL_get _ _ _ _ _ (by simpa using hj), if_neg (by omega)]
  rw [List.getD_eq_getElem?_getD, List.getElem?_eq_getElem (by simpa using hj)]
  rfl
theorem RowB.step {s : ByteArray} {a : Nat} {v : Int} {k n : Nat} {cur : Array Value} (h : RowB s a v k n cur) (hk : k < 4) (ha : a + 3 < s.size) (y : Int) (hy : y = ((byteAt v k).toNat : Int)) :
    RowB s a v (k + 1) n (cur.setIfInBounds (a + k) (.int .u8 (bits .xor .u8 (((bentL s.data.toList a v k).getD (a + k) 0).toNat : Int) y))) := by
  have hl : s.data.toList.length = s.size := (ba_size s).symm
  refine ⟨by simpa using h.1, h.2.1, fun j hj => ?_⟩
  by_cases e : j = a + k
  · subst e
    have h1 := h.1; have h2 := h.2.1
    rw [Array.getElem?_setIfInBounds_self_of_lt (by omega)]
    rw [bentL_get _ _ _ _ _ (by omega), bentL_get _ _ _ _ _ (by omega), if_neg (by omega), if_pos (by omega)]
    rw [hy, u8_xor_nat _ _ (UInt8.toNat_lt _) (UInt8.toNat_lt _), show a + k - a = k by omega, UInt8.toNat_xor]
  · rw [Array.getElem?_setIfInBounds_ne (by omega), h.2.2 j hj]
    rw [bentL_get _ _ _ _ _ (by omega), bentL_get _ _ _ _ _ (by omega)]
    by_cases c : a ≤ j ∧ j < a + k
    · rw [if_pos c, if_pos (by omega)]
    · rw [if_neg c, if_neg (by omega)]
theorem heap_set (w : World) (b o : Nat) (x : Value) (c : Array Value) (t : TypeId) (f : Nat × Nat) (h : w.heap[b]? = some (.cells c t f)) : (w.setCell ⟨b, o, none⟩ x).heap[b]? = some (.cells (c.setIfInBounds o x) t f) := by
  simp [World.setCell, Array.getElem?_modify, h]
theorem heap_set_ne (w : World) (b o k : Nat) (x : Value) (h : k ≠ b) : (w.setCell ⟨b, o, none⟩ x).heap[k]? = w.heap[k]? := Below.heap_setCell w ⟨b, o, none⟩ x k h
theorem cell_of (w : World) (b o : Nat) (c : Array Value) (t : TypeId) (f : Nat × Nat) (h : w.heap[b]? = some (.cells c t f)) : w.cell? ⟨b, o, none⟩ = c[o]? := by simp [World.cell?, h]
theorem frozen_of (w : World) (b o : Nat) (c : Array Value) (t : TypeId) (lo hi : Nat) (h : w.heap[b]? = some (.cells c t (lo, hi))) (hn : o < lo ∨ hi ≤ o) : w.frozen? ⟨b, o, none⟩ = false := by simp [World.frozen?, h]; omega
set_option maxHeartbeats 1000000 in
theorem bent_in (s : ByteArray) (a : Nat) (v : Int) (w : World) (hs : s.size < 4611686018427387904) (hv0 : 0 ≤ v) (hv1 : v < 4294967296) (h : a + 3 < s.size) :
    Calls Try.prog 135 #[.string s, .int .i64 a, .int .u32 v] w fun e w' => e = .returned (.string ⟨(bentL s.data.toList a v 4).toArray⟩) ∧ Below w.heap.size w w' := by
  have hcv := fun (w : World) (s : ByteArray) => run_bytes_of_string (P := Try.prog) w 9 143 5 s (by kernel_rfl) (by kernel_rfl) (by kernel_rfl)
  have q1 : (a : Int) ≤ (s.size : Int) - 4 := by omega
  have RB0 : Hid (RowB s a v 0 (bytesRow s (grownCap w s.size 0 5)).size (bytesRow s (grownCap w s.size 0 5))) := RowB.start s a v (grownCap w s.size 0 5) (grownCap_ge w s.size 0 5)
  have BL : Hid (Below w.heap.size w (w.alloc (.cells (bytesRow s (grownCap w s.size 0 5)) 5 ((bytesRow s (grownCap w s.size 0 5)).size, (bytesRow s (grownCap w s.size 0 5)).size + 1))).drew) := ((Below.refl _ _).alloc (Nat.le_refl _) _).drew
  go_enter Try.func135, Try.ntmps135
  go_wp2
  obtain ⟨C, hC⟩ : ∃ C, C = bytesRow s (grownCap w s.size 0 5) := ⟨_, rfl⟩
  rw [← hC] at RB0 BL ⊢
  clear hC hcv
  go_loopw [21] (fun iv wr => ∃ k : Nat, k ≤ 4 ∧ iv = .int .i64 k ∧ ∃ cur : Array Value, Hid (wr.heap[w.heap.size]? = some (.cells cur 5 (C.size, C.size + 1))) ∧ Hid (RowB s a v k C.size cur) ∧ Hid (Below w.heap.size w wr)) (fun iv _ => 4 - (intOf iv).toNat)
  case atStart => exact ⟨0, by omega, rfl, C, heap_alloc_new w.drew _, RB0.out, BL.out⟩
  case round =>
    obtain ⟨k, hk, rfl, cur, HH, RB, BW⟩ := hrel
    have hl : ∀ j, j < s.size → wr.cell? ⟨w.heap.size, j, none⟩ = some (.int .u8 (((bentL s.data.toList a v k).getD j 0).toNat : Int)) := fun j hj => (cell_of wr _ j cur 5 _ HH.out).trans (RB.out.2.2 j hj)
    have hlf : ∀ j, j < s.size → wr.frozen? ⟨w.heap.size, j, none⟩ = false := fun j hj => frozen_of wr _ j cur 5 _ _ HH.out (Or.inl (by have := RB.out.2.1; omega))
    have hxl : ∀ j, 0 ≤ (((bentL s.data.toList a v k).getD j 0).toNat : Int) ∧ (((bentL s.data.toList a v k).getD j 0).toNat : Int) < 256 := fun j => by have := ((bentL s.data.toList a v k).getD j 0).toNat_lt; omega
    by_cases hlt : k < 4
    · have hx := hl (a + k) (by omega)
      have hfz := hlf (a + k) (by omega)
      have hb := hxl (a + k)
      have ST : Hid _ := fun y hy => RB.out.step hlt h y hy
      have BY : Hid _ := byteAt_nat v k
      obtain ⟨x, hxx⟩ : ∃ x, x = (((bentL s.data.toList a v k).getD (a + k) 0).toNat : Int) := ⟨_, rfl⟩
      rw [← hxx] at hx hb ST
      clear hxx hl hlf hxl RB
      obtain ⟨hb1, hb2⟩ := hb
      rcases (show k = 0 ∨ k = 1 ∨ k = 2 ∨ k = 3 by omega) with rfl | rfl | rfl | rfl
      all_goals
        try simp only [Nat.add_zero] at hx hfz
        have q2 : (a : Int) < (s.size : Int) := by omega
        have q3 : (a : Int) + 1 < (s.size : Int) := by omega
        have q4 : (a : Int) + 2 < (s.size : Int) := by omega
        have q5 : (a : Int) + 3 < (s.size : Int) := by omega
        go_wp2
        go_region
        go_wp2
        go_roundw
        case rel => exact ⟨_, by omega, by go_num, _, heap_set wr _ _ _ _ _ _ HH.out, ST.out _ (by have := BY.out; simp at this; omega), (BW.out.setCell (p := ⟨w.heap.size, _, none⟩) (Nat.le_refl _) _).drew⟩
        case measure => simp [intOf]
    · have e4 : k = 4 := by omega
      subst e4
      have hll : (bentL s.data.toList a v 4).length = s.size := by simp [bentL]
      have hback := run_convert_bytes_back (P := Try.prog) wr 143 9 5 ⟨w.heap.size, 0, none⟩ (grownCap w s.size 0 5) (bentL s.data.toList a v 4) (by kernel_rfl) (by kernel_rfl) (by kernel_rfl) (fun j hj => by
        have e : (⟨w.heap.size, 0, none⟩ : Addr).add j = ⟨w.heap.size, j, none⟩ := by unfold Addr.add; split <;> simp_all
        rw [e, hl j (by omega), List.getD_eq_getElem?_getD, List.getElem?_eq_getElem hj]
        rfl)
      rw [hll] at hback
      clear hl hlf hxl hll
      obtain ⟨G, hG⟩ : ∃ G, G = grownCap w s.size 0 5 := ⟨_, rfl⟩
      rw [← hG] at hback ⊢
      clear hG
      go_wp2
      go_ret
      exact ⟨rfl, BW.out⟩
theorem bent_out (s : ByteArray) (a v : Int) (w : World) (hs : s.size < 4611686018427387904) (h : a < 0 ∨ (s.size : Int) - 4 < a) :
    Calls Try.prog 135 #[.string s, .int .i64 a, .int .u32 v] w fun e w' => e = .returned (.string s) ∧ Below w.heap.size w w' := by
  by_cases h0 : a < 0
  · clear h
    go_enter Try.func135, Try.ntmps135
    go_wp2
    go_ret
    exact ⟨rfl, Below.refl _ _⟩
  · have h1 : (s.size : Int) - 4 < a := by omega
    clear h
    go_enter Try.func135, Try.ntmps135
    go_wp2
    go_ret
    exact ⟨rfl, Below.refl _ _⟩
theorem bent_any (s : ByteArray) (a v : Int) (w : World) (hs : s.size < 4611686018427387904) (hv0 : 0 ≤ v) (hv1 : v < 4294967296) :
    Calls Try.prog 135 #[.string s, .int .i64 a, .int .u32 v] w fun e w' => e = .returned (.string (bentB s a v)) ∧ Below w.heap.size w w' := by
  by_cases h : a < 0 ∨ (s.size : Int) - 4 < a
  · unfold bentB; rw [if_pos h]; exact bent_out s a v w hs h
  · unfold bentB; rw [if_neg h]
    obtain ⟨n, rfl⟩ : ∃ n : Nat, a = n := ⟨a.toNat, by omega⟩
    rw [Int.toNat_natCast]
    exact bent_in s n v w hs hv0 hv1 (by omega)
end Go.Proofs.Ytnkgfoabadjboaa
