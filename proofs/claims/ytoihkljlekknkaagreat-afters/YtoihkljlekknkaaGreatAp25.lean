/-
  The numbers of a text, of the program. Conditions: the text has four bytes a number; at most 1000 numbers.
-/
import Derived.Test.YtoihkljlekknkaaGreatAp7
import Derived.Test.YtoihkljlekknkaaGreatAr5
import Derived.Deep.RegionHeld3
namespace Go.Proofs.YtoihkljlekknkaaGreat
open Go.RowKit
open Go.Joins (cell_of_block unfrozen_of_block)
set_option linter.unusedVariables false
set_option linter.unusedSimpArgs false
theorem u32_or_nat (a b : Nat) (ha : a < 4294967296) (hb : b < 4294967296) : bits .or .u32 (a : Int) (b : Int) = ((a ||| b : Nat) : Int) := by
 have hx : a ||| b < 2 ^ 32 := Nat.or_lt_two_pow (by omega) (by omega)
 have e : ∀ x : Nat, x < 4294967296 → (BitVec.ofInt 32 (x : Int)).toNat = x := fun x hx => by
  rw [BitVec.toNat_ofInt]; simp; omega
 show IntKind.u32.wrap ((BitVec.ofInt 32 (a : Int) ||| BitVec.ofInt 32 (b : Int)).toNat : Int) = _
 rw [BitVec.toNat_or, e a ha, e b hb]
 simp [IntKind.wrap, IntKind.bits, IntKind.signed]
 omega
theorem or_add (a b k : Nat) (hb : b < 2 ^ k) : a * 2 ^ k ||| b = a * 2 ^ k + b := by
 rw [← Nat.shiftLeft_eq, Nat.shiftLeft_add_eq_or_of_lt hb]
theorem or_four (a b c d : Int) (ha : 0 ≤ a ∧ a < 256) (hb : 0 ≤ b ∧ b < 256) (hc : 0 ≤ c ∧ c < 256) (hd : 0 ≤ d ∧ d < 256) :
 bits BinOp.or IntKind.u32 (bits BinOp.or IntKind.u32 (bits BinOp.or IntKind.u32 (IntKind.u32.wrap (IntKind.u32.wrap a * 16777216)) (IntKind.u32.wrap (IntKind.u32.wrap b * 65536))) (IntKind.u32.wrap (IntKind.u32.wrap c * 256))) (IntKind.u32.wrap d) = ((a * 256 + b) * 256 + c) * 256 + d := by
 obtain ⟨a', rfl⟩ : ∃ n : Nat, a = n := ⟨a.toNat, by omega⟩
 obtain ⟨b', rfl⟩ : ∃ n : Nat, b = n := ⟨b.toNat, by omega⟩
 obtain ⟨c', rfl⟩ : ∃ n : Nat, c = n := ⟨c.toNat, by omega⟩
 obtain ⟨d', rfl⟩ : ∃ n : Nat, d = n := ⟨d.toNat, by omega⟩
 have w1 : ∀ x : Int, 0 ≤ x → x < 4294967296 → IntKind.u32.wrap x = x := fun x h0 h1 => by simp [IntKind.wrap, IntKind.bits, IntKind.signed]; omega
 rw [w1 (a' : Int) (by omega) (by omega), w1 (b' : Int) (by omega) (by omega), w1 (c' : Int) (by omega) (by omega), w1 (d' : Int) (by omega) (by omega), w1 ((a' : Int) * 16777216) (by omega) (by omega), w1 ((b' : Int) * 65536) (by omega) (by omega), w1 ((c' : Int) * 256) (by omega) (by omega)]
 rw [show (a' : Int) * 16777216 = ((a' * 16777216 : Nat) : Int) by omega, show (b' : Int) * 65536 = ((b' * 65536 : Nat) : Int) by omega, show (c' : Int) * 256 = ((c' * 256 : Nat) : Int) by omega]
 have o1 : a' * 16777216 ||| b' * 65536 = a' * 16777216 + b' * 65536 := or_add a' (b' * 65536) 24 (by omega)
 have o2 : (a' * 16777216 + b' * 65536) ||| c' * 256 = a' * 16777216 + b' * 65536 + c' * 256 := by
  have := or_add (a' * 256 + b') (c' * 256) 16 (by omega)
  rw [show (a' * 256 + b') * 2 ^ 16 = a' * 16777216 + b' * 65536 by omega] at this; exact this
 have o3 : (a' * 16777216 + b' * 65536 + c' * 256) ||| d' = a' * 16777216 + b' * 65536 + c' * 256 + d' := by
  have := or_add ((a' * 256 + b') * 256 + c') d' 8 (by omega)
  rw [show ((a' * 256 + b') * 256 + c') * 2 ^ 8 = a' * 16777216 + b' * 65536 + c' * 256 by omega] at this; exact this
 rw [u32_or_nat _ _ (by omega) (by omega), o1, u32_or_nat _ _ (by omega) (by omega), o2, u32_or_nat _ _ (by omega) (by omega), o3]
 omega
theorem byt_ext (s : ByteArray) (a b k : Nat) (h : a + k < b) (hb : b ≤ s.size) : byt (s.extract a b) k = byt s (a + k) := by
 have h1 : k < (s.extract a b).size := by rw [ByteArray.size_extract]; omega
 rw [← byt_of _ k h1, ← byt_of s (a + k) (by omega), ByteArray.getElem_extract]
set_option maxHeartbeats 4000000 in
set_option maxRecDepth 100000 in
theorem words_any (s : ByteArray) (n : Nat) (w : World) (hs : s.size = 4 * n) (n4 : n ≤ 1000) :
 Calls Tryz.prog 24 #[.string s] w fun e w' => ∃ G, e = .returned (.slice (some ⟨G, 0, none⟩) n n) ∧ w.heap.size ≤ G ∧ w'.heap[G]? = some (.cells (u32s (WDS s 0 n)) 29 (0, 0)) ∧ Below w.heap.size w w' := by
 obtain ⟨j0, ji, jz0, jz1, jz2⟩ := info_three Tryz.infoU
 have wq : IntKind.i64.wrap (((s.size : Nat) : Int)) = 4 * (n : Int) := by rw [hs, IntKind.wrap_i64]; omega
 have dq : (4 * (n : Int)) / 4 = (n : Int) := by omega
 obtain ⟨G, hG⟩ : ∃ G, G = w.heap.size := ⟨_, rfl⟩
 have HG : Hid _ := hG
 clear hG
 have HS : Hid _ := hs
 go_enter Tryz.func24, Tryz.ntmps24
 go_wp2_with (first
  | (at_make; refine wpList_make_full _ rfl _ _ 43 rfl w.heap.size 29 j0 _ 1 Tryz.under43 ji jz0 jz1 _ _ _ _ n rfl rfl rfl rfl (by rw [jz2]; omega) (by unfold maxLen; omega) (Nat.le_refl _) ?_
     intro w1 hown hgr
     rw [Nat.mul_one] at hown
     have B1 : Hid (Below w.heap.size w w1) := (Below.refl _ _).grown hgr (Nat.le_refl _) (by simp)
     have H1 : Hid (w1.heap[w.heap.size]? = some (.cells (u32s (List.replicate n 0)) 29 (0, 0))) := made_u32 hown
     rw [← HG.out] at H1 ⊢
     clear hown hgr))
 clear ji jz0 jz1 jz2 wq dq
 obtain ⟨F, hF⟩ : ∃ F : Nat → Int, F = fun k => wordN s (4 * (0 + k)) := ⟨_, rfl⟩
 have FE : Hid (WDS s 0 n = (List.range n).map F) := by show _ = _; rw [hF]; rfl
 have FI : Hid (∀ k, F k = wordN s (4 * k)) := fun k => by rw [hF]; show wordN s (4 * (0 + k)) = _; rw [Nat.zero_add]
 clear hF
 go_loopw [12] (fun iv wr => ∃ i : Nat, i ≤ n ∧ iv = .int .i64 i ∧ ∃ l : List Int, Hid (l.length = n) ∧ Hid (∀ k, k < i → l.getD k 0 = F k) ∧ Hid (wr.heap[G]? = some (.cells (u32s l) 29 (0, 0))) ∧ Hid (Below w.heap.size w wr)) (fun iv _ => n - (intOf iv).toNat)
 case atStart => exact ⟨0, by omega, rfl, _, List.length_replicate, fun k hk => absurd hk (by omega), H1.out, B1.out⟩
 case round =>
  clear H1 B1
  obtain ⟨i, hi, rfl, l, LL, LI, HL, BW⟩ := hrel
  by_cases hlt : i < n
  · have ai : wr.cell? ⟨G, i, none⟩ = some (.int .u32 (l.getD i 0)) := (cell_of_block HL.out _).trans (u32s_at l i (by rw [LL.out]; exact hlt))
    have fi : wr.frozen? ⟨G, i, none⟩ = false := unfrozen_of_block HL.out _
    have il : (i : Int) < (n : Int) := by omega
    have i0 : (0 : Int) ≤ (i : Int) := by omega
    have i4 : 4 * (i : Int) ≤ 4 * (n : Int) := by omega
    have i40 : 0 ≤ 4 * (i : Int) := by omega
    go_upto_region 6 with fail
    obtain ⟨b, hb⟩ : ∃ b, b = s.extract (4 * i) (4 * n) := ⟨_, rfl⟩
    have bz : b.size = 4 * n - 4 * i := by rw [hb, ByteArray.size_extract, HS.out]; omega
    have b0 : (0 : Int) < (b.size : Int) := by omega
    have b1 : (1 : Int) < (b.size : Int) := by omega
    have b2 : (2 : Int) < (b.size : Int) := by omega
    have b3 : (3 : Int) < (b.size : Int) := by omega
    have HB : Hid _ := hb
    have m0 : 0 < b.size := by omega
    have m1 : 1 < b.size := by omega
    have m2 : 2 < b.size := by omega
    have m3 : 3 < b.size := by omega
    rw [← hb]
    clear hb bz i4 i40 hs
    refine wp_region_held_drew (S := fun w' => True) (by kernel_rfl) trivial (fun hS => ?_)
    refine wpAnyH_take (i := 0) (oi := ⟨some 19, .move (.tmp 3), 43, "text.go:11", #[], none⟩) (v := ?_) rfl (by kernel_rfl) (by kernel_rfl) (by kernel_rfl) (fun _ _ _ h => h) (Or.inl ⟨by kernel_rfl, ?_⟩) hS ?_
    rotate_left
    · intro w hSw; (try dsimp only at hSw); go_simp; (try with_reducible rfl)
    try go_frame
    refine wpAnyH_take (i := 1) (oi := ⟨some 20, .move (.tmp 4), 3, "text.go:11", #[], none⟩) (v := ?_) rfl (by kernel_rfl) (by kernel_rfl) (by kernel_rfl) (fun _ _ _ h => h) (Or.inl ⟨by kernel_rfl, ?_⟩) hS ?_
    rotate_left
    · intro w hSw; (try dsimp only at hSw); go_simp; (try with_reducible rfl)
    try go_frame
    refine wpAnyH_take (i := 2) (oi := ⟨some 21, .move (.tmp 5), 9, "text.go:11", #[], none⟩) (v := ?_) rfl (by kernel_rfl) (by kernel_rfl) (by kernel_rfl) (fun _ _ _ h => h) (Or.inl ⟨by kernel_rfl, ?_⟩) hS ?_
    rotate_left
    · intro w hSw; (try dsimp only at hSw); go_simp; (try with_reducible rfl)
    try go_frame
    refine wpAnyH_take (i := 3) (oi := ⟨some 22, .index 9 (.tmp 21) (.const (.int .i64 0)), 5, "text.go:11", #[⟨2, .data⟩], none⟩) (v := ?_) rfl (by kernel_rfl) (by kernel_rfl) (by kernel_rfl) (fun _ _ _ h => h) (Or.inl ⟨by kernel_rfl, ?_⟩) hS ?_
    rotate_left
    · intro w hSw; (try dsimp only at hSw); go_simp; (try with_reducible rfl)
    try go_frame
    refine wpAnyH_take (i := 4) (oi := ⟨some 23, .convert 5 29 (.tmp 22), 29, "text.go:11", #[⟨3, .data⟩], none⟩) (v := ?_) rfl (by kernel_rfl) (by kernel_rfl) (by kernel_rfl) (fun _ _ _ h => h) (Or.inl ⟨by kernel_rfl, ?_⟩) hS ?_
    rotate_left
    · intro w hSw; (try dsimp only at hSw); go_simp; (try with_reducible rfl)
    try go_frame
    refine wpAnyH_take (i := 5) (oi := ⟨some 24, .binOp .shl 29 (.tmp 23) (.const (.int .u64 24)) 93, 29, "text.go:11", #[⟨4, .data⟩], none⟩) (v := ?_) rfl (by kernel_rfl) (by kernel_rfl) (by kernel_rfl) (fun _ _ _ h => h) (Or.inl ⟨by kernel_rfl, ?_⟩) hS ?_
    rotate_left
    · intro w hSw; (try dsimp only at hSw); go_simp; (try with_reducible rfl)
    try go_frame
    refine wpAnyH_take (i := 6) (oi := ⟨some 25, .move (.tmp 5), 9, "text.go:11", #[], none⟩) (v := ?_) rfl (by kernel_rfl) (by kernel_rfl) (by kernel_rfl) (fun _ _ _ h => h) (Or.inl ⟨by kernel_rfl, ?_⟩) hS ?_
    rotate_left
    · intro w hSw; (try dsimp only at hSw); go_simp; (try with_reducible rfl)
    try go_frame
    refine wpAnyH_take (i := 7) (oi := ⟨some 26, .index 9 (.tmp 25) (.const (.int .i64 1)), 5, "text.go:11", #[⟨6, .data⟩], none⟩) (v := ?_) rfl (by kernel_rfl) (by kernel_rfl) (by kernel_rfl) (fun _ _ _ h => h) (Or.inl ⟨by kernel_rfl, ?_⟩) hS ?_
    rotate_left
    · intro w hSw; (try dsimp only at hSw); go_simp; (try with_reducible rfl)
    try go_frame
    refine wpAnyH_take (i := 8) (oi := ⟨some 27, .convert 5 29 (.tmp 26), 29, "text.go:11", #[⟨7, .data⟩], none⟩) (v := ?_) rfl (by kernel_rfl) (by kernel_rfl) (by kernel_rfl) (fun _ _ _ h => h) (Or.inl ⟨by kernel_rfl, ?_⟩) hS ?_
    rotate_left
    · intro w hSw; (try dsimp only at hSw); go_simp; (try with_reducible rfl)
    try go_frame
    refine wpAnyH_take (i := 9) (oi := ⟨some 28, .binOp .shl 29 (.tmp 27) (.const (.int .u64 16)) 93, 29, "text.go:11", #[⟨8, .data⟩], none⟩) (v := ?_) rfl (by kernel_rfl) (by kernel_rfl) (by kernel_rfl) (fun _ _ _ h => h) (Or.inl ⟨by kernel_rfl, ?_⟩) hS ?_
    rotate_left
    · intro w hSw; (try dsimp only at hSw); go_simp; (try with_reducible rfl)
    try go_frame
    refine wpAnyH_take (i := 10) (oi := ⟨some 29, .binOp .or 29 (.tmp 24) (.tmp 28) 29, 29, "text.go:11", #[⟨5, .data⟩, ⟨9, .data⟩], none⟩) (v := ?_) rfl (by kernel_rfl) (by kernel_rfl) (by kernel_rfl) (fun _ _ _ h => h) (Or.inl ⟨by kernel_rfl, ?_⟩) hS ?_
    rotate_left
    · intro w hSw; (try dsimp only at hSw); go_simp; (try with_reducible rfl)
    try go_frame
    refine wpAnyH_take (i := 11) (oi := ⟨some 30, .move (.tmp 5), 9, "text.go:11", #[], none⟩) (v := ?_) rfl (by kernel_rfl) (by kernel_rfl) (by kernel_rfl) (fun _ _ _ h => h) (Or.inl ⟨by kernel_rfl, ?_⟩) hS ?_
    rotate_left
    · intro w hSw; (try dsimp only at hSw); go_simp; (try with_reducible rfl)
    try go_frame
    refine wpAnyH_take (i := 12) (oi := ⟨some 31, .index 9 (.tmp 30) (.const (.int .i64 2)), 5, "text.go:11", #[⟨11, .data⟩], none⟩) (v := ?_) rfl (by kernel_rfl) (by kernel_rfl) (by kernel_rfl) (fun _ _ _ h => h) (Or.inl ⟨by kernel_rfl, ?_⟩) hS ?_
    rotate_left
    · intro w hSw; (try dsimp only at hSw); go_simp; (try with_reducible rfl)
    try go_frame
    refine wpAnyH_take (i := 13) (oi := ⟨some 32, .convert 5 29 (.tmp 31), 29, "text.go:11", #[⟨12, .data⟩], none⟩) (v := ?_) rfl (by kernel_rfl) (by kernel_rfl) (by kernel_rfl) (fun _ _ _ h => h) (Or.inl ⟨by kernel_rfl, ?_⟩) hS ?_
    rotate_left
    · intro w hSw; (try dsimp only at hSw); go_simp; (try with_reducible rfl)
    try go_frame
    refine wpAnyH_take (i := 14) (oi := ⟨some 33, .binOp .shl 29 (.tmp 32) (.const (.int .u64 8)) 93, 29, "text.go:11", #[⟨13, .data⟩], none⟩) (v := ?_) rfl (by kernel_rfl) (by kernel_rfl) (by kernel_rfl) (fun _ _ _ h => h) (Or.inl ⟨by kernel_rfl, ?_⟩) hS ?_
    rotate_left
    · intro w hSw; (try dsimp only at hSw); go_simp; (try with_reducible rfl)
    try go_frame
    refine wpAnyH_take (i := 15) (oi := ⟨some 34, .binOp .or 29 (.tmp 29) (.tmp 33) 29, 29, "text.go:11", #[⟨10, .data⟩, ⟨14, .data⟩], none⟩) (v := ?_) rfl (by kernel_rfl) (by kernel_rfl) (by kernel_rfl) (fun _ _ _ h => h) (Or.inl ⟨by kernel_rfl, ?_⟩) hS ?_
    rotate_left
    · intro w hSw; (try dsimp only at hSw); go_simp; (try with_reducible rfl)
    try go_frame
    refine wpAnyH_take (i := 16) (oi := ⟨some 35, .move (.tmp 5), 9, "text.go:11", #[], none⟩) (v := ?_) rfl (by kernel_rfl) (by kernel_rfl) (by kernel_rfl) (fun _ _ _ h => h) (Or.inl ⟨by kernel_rfl, ?_⟩) hS ?_
    rotate_left
    · intro w hSw; (try dsimp only at hSw); go_simp; (try with_reducible rfl)
    try go_frame
    refine wpAnyH_take (i := 17) (oi := ⟨some 36, .index 9 (.tmp 35) (.const (.int .i64 3)), 5, "text.go:11", #[⟨16, .data⟩], none⟩) (v := ?_) rfl (by kernel_rfl) (by kernel_rfl) (by kernel_rfl) (fun _ _ _ h => h) (Or.inl ⟨by kernel_rfl, ?_⟩) hS ?_
    rotate_left
    · intro w hSw; (try dsimp only at hSw); go_simp; (try with_reducible rfl)
    try go_frame
    refine wpAnyH_take (i := 18) (oi := ⟨some 37, .convert 5 29 (.tmp 36), 29, "text.go:11", #[⟨17, .data⟩], none⟩) (v := ?_) rfl (by kernel_rfl) (by kernel_rfl) (by kernel_rfl) (fun _ _ _ h => h) (Or.inl ⟨by kernel_rfl, ?_⟩) hS ?_
    rotate_left
    · intro w hSw; (try dsimp only at hSw); go_simp; (try with_reducible rfl)
    try go_frame
    refine wpAnyH_take (i := 19) (oi := ⟨some 38, .binOp .or 29 (.tmp 34) (.tmp 37) 29, 29, "text.go:11", #[⟨15, .data⟩, ⟨18, .data⟩], none⟩) (v := ?_) rfl (by kernel_rfl) (by kernel_rfl) (by kernel_rfl) (fun _ _ _ h => h) (Or.inl ⟨by kernel_rfl, ?_⟩) hS ?_
    rotate_left
    · intro w hSw; (try dsimp only at hSw); go_simp; (try with_reducible rfl)
    try go_frame
    refine wpAnyH_take (i := 20) (oi := ⟨some 39, .indexAddr 43 (.tmp 19) (.tmp 20), 0, "text.go:11", #[⟨0, .data⟩, ⟨1, .data⟩, ⟨0, .phase⟩, ⟨1, .phase⟩, ⟨2, .phase⟩, ⟨3, .phase⟩, ⟨4, .phase⟩, ⟨5, .phase⟩, ⟨6, .phase⟩, ⟨7, .phase⟩, ⟨8, .phase⟩, ⟨9, .phase⟩, ⟨10, .phase⟩, ⟨11, .phase⟩, ⟨12, .phase⟩, ⟨13, .phase⟩, ⟨14, .phase⟩, ⟨15, .phase⟩, ⟨16, .phase⟩, ⟨17, .phase⟩, ⟨18, .phase⟩, ⟨19, .phase⟩], none⟩) (v := ?_) rfl (by kernel_rfl) (by kernel_rfl) (by kernel_rfl) (fun _ _ _ h => h) (Or.inl ⟨by kernel_rfl, ?_⟩) hS ?_
    rotate_left
    · intro w hSw; (try dsimp only at hSw); go_simp; (try with_reducible rfl)
    try go_frame
    refine wpAnyH_ready (rs := [21]) (by kernel_rfl) (by simp) ?_
    refine AllReadyH.cons (o := ⟨none, .store 29 (.tmp 39) (.tmp 38), 0, "text.go:11", #[⟨20, .data⟩, ⟨19, .data⟩, ⟨0, .phase⟩, ⟨1, .phase⟩, ⟨2, .phase⟩, ⟨3, .phase⟩, ⟨4, .phase⟩, ⟨5, .phase⟩, ⟨6, .phase⟩, ⟨7, .phase⟩, ⟨8, .phase⟩, ⟨9, .phase⟩, ⟨10, .phase⟩, ⟨11, .phase⟩, ⟨12, .phase⟩, ⟨13, .phase⟩, ⟨14, .phase⟩, ⟨15, .phase⟩, ⟨16, .phase⟩, ⟨17, .phase⟩, ⟨18, .phase⟩, ⟨19, .phase⟩], none⟩) rfl (fun K hK => ?_) AllReadyH.nil
    go_simp
    refine hK.out _ _ trivial (fun hS => ?_)
    try go_frame
    clear hK K
    refine wpAnyH_done (by kernel_rfl) ?_ _
    clear hS
    have VE : Hid (bits BinOp.or IntKind.u32 (bits BinOp.or IntKind.u32 (bits BinOp.or IntKind.u32 (IntKind.u32.wrap (IntKind.u32.wrap ((b[0].toNat : Nat) : Int) * 16777216)) (IntKind.u32.wrap (IntKind.u32.wrap ((b[1].toNat : Nat) : Int) * 65536))) (IntKind.u32.wrap (IntKind.u32.wrap ((b[2].toNat : Nat) : Int) * 256))) (IntKind.u32.wrap ((b[3].toNat : Nat) : Int)) = F i) := by
     show _ = _
     rw [byt_of b 0 m0, byt_of b 1 m1, byt_of b 2 m2, byt_of b 3 m3, or_four _ _ _ _ (byt_lt b 0) (byt_lt b 1) (byt_lt b 2) (byt_lt b 3), FI.out i]
     unfold wordN
     rw [HB.out, byt_ext s (4 * i) (4 * n) 0 (by omega) (by have := HS.out; omega), byt_ext s (4 * i) (4 * n) 1 (by omega) (by have := HS.out; omega), byt_ext s (4 * i) (4 * n) 2 (by omega) (by have := HS.out; omega), byt_ext s (4 * i) (4 * n) 3 (by omega) (by have := HS.out; omega)]
     rfl
    rw [VE.out]
    clear VE
    go_wp2
    go_roundw
    case rel =>
     refine ⟨i + 1, by omega, by go_num, l.set i (F i), ?_, fun k hk => ?_, ?_, (BW.out.setCell (p := ⟨G, i, none⟩) (Nat.le_of_eq HG.out.symm) _).drew⟩
     · show _ = _; rw [List.length_set]; exact LL.out
     · rw [getD_set]
       by_cases e : i = k
       · rw [if_pos ⟨e, by rw [LL.out]; exact hlt⟩, e]
       · rw [if_neg (fun h => e h.1)]; exact LI.out k (by omega)
     · show (wr.setCell ⟨G, i, none⟩ (.int .u32 (F i))).heap[G]? = _; rw [heap_set _ G i _ _ 29 _ HL.out, u32s_set]
    case measure => simp [intOf]; omega
  · have hie : n = i := by omega
    have R : Hid (wr.heap[G]? = some (.cells (u32s (WDS s 0 n)) 29 (0, 0))) := by
     show _ = _
     rw [HL.out, FE.out, list_of l n F LL.out fun k hk => LI.out k (by omega)]
    clear hie
    go_wp2
    go_ret
    exact ⟨G, rfl, Nat.le_of_eq HG.out.symm, R.out, BW.out⟩
end Go.Proofs.YtoihkljlekknkaaGreat
