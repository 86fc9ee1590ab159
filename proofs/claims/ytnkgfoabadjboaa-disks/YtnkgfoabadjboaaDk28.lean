/-
  Bend, by the document, told cell by cell. Conditions: the cells of the disk lie apart; the name has a file; the texts are shorter than 2^62.
-/
import Derived.Test.YtnkgfoabadjboaaDk6
import Derived.Deep.Cut
import Derived.Deep.RegionHeld3
namespace Go.Proofs.Ytnkgfoabadjboaa
open Go.RowKit
set_option linter.unusedVariables false
set_option linter.unusedSimpArgs false
set_option maxHeartbeats 2000000 in
set_option maxRecDepth 100000 in
theorem rbend_cells (D g gk i L cap capk : Nat) (vn : Value) (l : List (ByteArray × Int)) (s x y : ByteArray) (a v : Int) (w : World)
    (hl : REnts w vn l) (hf : findR l s = (i : Int)) (hi : (i : Int) < (L : Int)) (hL : L < 4611686018427387904)
    (c0 : w.cell? ⟨D, 0, none⟩ = some (.slice (some ⟨g, 0, none⟩) L cap)) (c1 : w.cell? ⟨D, 1, none⟩ = some (.slice (some ⟨gk, 0, none⟩) L capk)) (c2 : w.cell? ⟨D, 2, none⟩ = some vn)
    (e0 : w.cell? ⟨g, i, none⟩ = some (.string x)) (e1 : w.cell? ⟨gk, i, none⟩ = some (.string y)) (f0 : w.frozen? ⟨g, i, none⟩ = false) (f1 : w.frozen? ⟨gk, i, none⟩ = false)
    (hD : D < w.heap.size) (hg : g < w.heap.size) (hgk : gk < w.heap.size) (ng : g ≠ gk) (nD : D ≠ g) (nDk : D ≠ gk)
    (hx : x.size < 4611686018427387904) (hy : y.size < 4611686018427387904) (hv0 : 0 ≤ v) (hv1 : v < 4294967296) :
    Calls Try.prog 105 #[.pointer (some ⟨D, 0, none⟩), .string s, .int .i64 a, .int .i64 v] w fun e w' => e = .returned (.tuple #[]) ∧ ∃ w1 w2, Below w.heap.size w w1 ∧ Below w.heap.size (w1.setCell ⟨g, i, none⟩ (.string (bentB x a v))) w2 ∧ w' = w2.setCell ⟨gk, i, none⟩ (.string (bentB y a v)) := by
  have F : Hid (∀ W, REnts W vn l → Calls Try.prog 126 #[vn, .string s] W fun e w' => e = .returned (.int .i64 (i : Int)) ∧ w' = W) := fun W h => by rw [← hf]; exact fileOf_any vn l s W h
  have HL : Hid _ := hl
  have B1 : Hid (∀ W, Calls Try.prog 136 #[.string x, .int .i64 a, .int .i64 v] W fun e w' => e = .returned (.string (bentB x a v)) ∧ Below W.heap.size W w') := fun W => bentText_any x a v W hx hv0 hv1
  have B2 : Hid (∀ W, Calls Try.prog 136 #[.string y, .int .i64 a, .int .i64 v] W fun e w' => e = .returned (.string (bentB y a v)) ∧ Below W.heap.size W w') := fun W => bentText_any y a v W hy hv0 hv1
  obtain ⟨x', hx'⟩ : ∃ x', x' = bentB x a v := ⟨_, rfl⟩
  obtain ⟨y', hy'⟩ : ∃ y', y' = bentB y a v := ⟨_, rfl⟩
  rw [← hx'] at B1
  rw [← hy'] at B2
  rw [← hx', ← hy']
  have hi0 : (0 : Int) ≤ (i : Int) := by omega
  have C1 : Hid _ := And.intro c1 (And.intro e1 f1)
  clear hl hf hx' hy' hx hy c1 e1 f1
  go_enter Try.func105, Try.ntmps105
  go_upto_region 2 with (first | (go_at_call 126; refine (F.out _ HL.out).mono ?_; rintro e wq ⟨rfl, hwq⟩; subst wq))
  clear c2
  refine wp_region_held_drew (S := fun w' => w'.cell? ⟨D, 0, none⟩ = some (.slice (some ⟨g, 0, none⟩) L cap)) (by kernel_rfl) c0 (fun hS => ?_)
  refine wpAnyH_take (i := 0) (v := ?_) rfl (by kernel_rfl) (by kernel_rfl) (by kernel_rfl) (fun _ _ _ h => h) (Or.inl ⟨by rfl, ?_⟩) hS ?_
  rotate_left
  · intro w hSw
    try dsimp only at hSw
    go_simp
    try with_reducible rfl
  try simp only [Act.put, List.setIfInBounds_toArray, List.set_cons_zero, List.set_cons_succ]
  refine wpAnyH_take (i := 1) (v := ?_) rfl (by kernel_rfl) (by kernel_rfl) (by kernel_rfl) (fun _ _ _ h => h) (Or.inl ⟨by rfl, ?_⟩) hS ?_
  rotate_left
  · intro w hSw
    try dsimp only at hSw
    go_simp
    try with_reducible rfl
  try simp only [Act.put, List.setIfInBounds_toArray, List.set_cons_zero, List.set_cons_succ]
  refine wpAnyH_take (i := 2) (v := ?_) rfl (by kernel_rfl) (by kernel_rfl) (by kernel_rfl) (fun _ _ _ h => h) (Or.inl ⟨by rfl, ?_⟩) hS ?_
  rotate_left
  · intro w hSw
    try dsimp only at hSw
    go_simp
    try with_reducible rfl
  try simp only [Act.put, List.setIfInBounds_toArray, List.set_cons_zero, List.set_cons_succ]
  refine wpAnyH_take (i := 3) (v := ?_) rfl (by kernel_rfl) (by kernel_rfl) (by kernel_rfl) (fun _ _ _ h => h) (Or.inl ⟨by rfl, ?_⟩) hS ?_
  rotate_left
  · intro w hSw
    try dsimp only at hSw
    go_simp
    try with_reducible rfl
  try simp only [Act.put, List.setIfInBounds_toArray, List.set_cons_zero, List.set_cons_succ]
  refine wpAnyH_take (i := 4) (v := ?_) rfl (by kernel_rfl) (by kernel_rfl) (by kernel_rfl) (fun _ _ _ h => h) (Or.inl ⟨by rfl, ?_⟩) hS ?_
  rotate_left
  · intro w hSw
    try dsimp only at hSw
    go_simp
    try with_reducible rfl
  try simp only [Act.put, List.setIfInBounds_toArray, List.set_cons_zero, List.set_cons_succ]
  refine wpAnyH_take (i := 5) (v := ?_) rfl (by kernel_rfl) (by kernel_rfl) (by kernel_rfl) (fun _ _ _ h => h) (Or.inl ⟨by rfl, ?_⟩) hS ?_
  rotate_left
  · intro w hSw
    try dsimp only at hSw
    go_simp
    try with_reducible rfl
  try simp only [Act.put, List.setIfInBounds_toArray, List.set_cons_zero, List.set_cons_succ]
  refine wpAnyH_take (i := 6) (v := ?_) rfl (by kernel_rfl) (by kernel_rfl) (by kernel_rfl) (fun _ _ _ h => h) (Or.inl ⟨by rfl, ?_⟩) hS ?_
  rotate_left
  · intro w hSw
    try dsimp only at hSw
    go_simp
    try with_reducible rfl
  try simp only [Act.put, List.setIfInBounds_toArray, List.set_cons_zero, List.set_cons_succ]
  refine wpAnyH_take (i := 7) (v := ?_) rfl (by kernel_rfl) (by kernel_rfl) (by kernel_rfl) (fun _ _ _ h => h) (Or.inl ⟨by rfl, ?_⟩) hS ?_
  rotate_left
  · intro w hSw
    try dsimp only at hSw
    go_simp
    try with_reducible rfl
  try simp only [Act.put, List.setIfInBounds_toArray, List.set_cons_zero, List.set_cons_succ]
  refine wpAnyH_take (i := 8) (v := ?_) rfl (by kernel_rfl) (by kernel_rfl) (by kernel_rfl) (fun _ _ _ h => h) (Or.inl ⟨by rfl, ?_⟩) hS ?_
  rotate_left
  · intro w hSw
    try dsimp only at hSw
    go_simp
    try with_reducible rfl
  try simp only [Act.put, List.setIfInBounds_toArray, List.set_cons_zero, List.set_cons_succ]
  refine wpAnyH_take (i := 9) (v := ?_) rfl (by kernel_rfl) (by kernel_rfl) (by kernel_rfl) (fun _ _ _ h => h) (Or.inl ⟨by rfl, ?_⟩) hS ?_
  rotate_left
  · intro w hSw
    try dsimp only at hSw
    go_simp
    try with_reducible rfl
  try simp only [Act.put, List.setIfInBounds_toArray, List.set_cons_zero, List.set_cons_succ]
  refine wpAnyH_take (i := 10) (v := ?_) rfl (by kernel_rfl) (by kernel_rfl) (by kernel_rfl) (fun _ _ _ h => h) (Or.inl ⟨by rfl, ?_⟩) hS ?_
  rotate_left
  · intro w hSw
    try dsimp only at hSw
    go_simp
    try with_reducible rfl
  try simp only [Act.put, List.setIfInBounds_toArray, List.set_cons_zero, List.set_cons_succ]
  refine wpAnyH_take (i := 12) (v := ?_) rfl (by kernel_rfl) (by kernel_rfl) (by kernel_rfl) (fun _ _ _ h => h) (Or.inl ⟨by rfl, ?_⟩) hS ?_
  rotate_left
  · intro w hSw
    try dsimp only at hSw
    go_simp
    try with_reducible rfl
  try simp only [Act.put, List.setIfInBounds_toArray, List.set_cons_zero, List.set_cons_succ]
  refine wpAnyH_take (i := 13) (v := ?_) rfl (by kernel_rfl) (by kernel_rfl) (by kernel_rfl) (fun _ _ _ h => h) (Or.inl ⟨by rfl, ?_⟩) hS ?_
  rotate_left
  · intro w hSw
    try dsimp only at hSw
    go_simp
    try with_reducible rfl
  try simp only [Act.put, List.setIfInBounds_toArray, List.set_cons_zero, List.set_cons_succ]
  refine wpAnyH_ready (rs := [11]) (by kernel_rfl) (by simp) ?_
  refine AllReadyH.cons rfl (fun K hK => ?_) AllReadyH.nil
  go_simp
  refine hK.out _ _ hS (fun hS => ?_)
  try simp only [Act.put, List.setIfInBounds_toArray, List.set_cons_zero, List.set_cons_succ]
  clear hK K
  refine wpAnyH_ready (rs := [14]) (by kernel_rfl) (by simp) ?_
  refine AllReadyH.cons rfl (fun K hK => ?_) AllReadyH.nil
  go_simp
  refine (B1.out _).mono ?_
  rintro e w3 ⟨rfl, hb⟩
  have hS3 : w3.cell? ⟨D, 0, none⟩ = some (.slice (some ⟨g, 0, none⟩) L cap) := (hb.cell (p := ⟨D, 0, none⟩) hD).trans c0
  have b0 : w3.cell? ⟨g, i, none⟩ = some (.string x) := (hb.cell (p := ⟨g, i, none⟩) hg).trans e0
  have g0 : w3.frozen? ⟨g, i, none⟩ = false := (hb.frozen (p := ⟨g, i, none⟩) hg).trans f0
  have HB3 : Hid (Below w.heap.size w w3) := ((Below.refl _ _).drew).trans hb
  clear hb e0 f0 c0
  go_wp2_with fail
  refine hK.out _ _ hS3 (fun hS => ?_)
  try simp only [Act.put, List.setIfInBounds_toArray, List.set_cons_zero, List.set_cons_succ]
  clear hK K
  refine wpAnyH_take (i := 15) (v := ?_) rfl (by kernel_rfl) (by kernel_rfl) (by kernel_rfl) (fun _ _ _ h => h) (Or.inl ⟨by rfl, ?_⟩) hS ?_
  rotate_left
  · intro w hSw
    try dsimp only at hSw
    go_simp
    try with_reducible rfl
  try simp only [Act.put, List.setIfInBounds_toArray, List.set_cons_zero, List.set_cons_succ]
  refine wpAnyH_ready (rs := [16]) (by kernel_rfl) (by simp) ?_
  refine AllReadyH.cons rfl (fun K hK => ?_) AllReadyH.nil
  go_simp
  refine hK.out _ _ ((World.cell?_of_block (Below.heap_setCell w3 ⟨g, i, none⟩ _ D nD)).trans hS3) (fun hS => ?_)
  try simp only [Act.put, List.setIfInBounds_toArray, List.set_cons_zero, List.set_cons_succ]
  clear hK K
  refine wpAnyH_done (by kernel_rfl) ?_ _
  go_upto_region 3 with fail
  obtain ⟨V, hV⟩ : ∃ V, w3.setCell ⟨g, i, none⟩ (.string x') = V := ⟨_, rfl⟩
  have k1 : V.cell? ⟨D, 1, none⟩ = some (.slice (some ⟨gk, 0, none⟩) L capk) := by
    rw [← hV]; exact (World.cell?_of_block (Below.heap_setCell w3 ⟨g, i, none⟩ _ D nD)).trans ((HB3.out.cell (p := ⟨D, 1, none⟩) hD).trans C1.out.1)
  have k2 : V.cell? ⟨gk, i, none⟩ = some (.string y) := by
    rw [← hV]; exact (World.cell?_of_block (Below.heap_setCell w3 ⟨g, i, none⟩ _ gk (Ne.symm ng))).trans ((HB3.out.cell (p := ⟨gk, i, none⟩) hgk).trans C1.out.2.1)
  have k3 : V.frozen? ⟨gk, i, none⟩ = false := by
    rw [← hV]; exact (World.frozen?_of_block (Below.heap_setCell w3 ⟨g, i, none⟩ _ gk (Ne.symm ng))).trans ((HB3.out.frozen (p := ⟨gk, i, none⟩) hgk).trans C1.out.2.2)
  have VS : Hid (w.heap.size ≤ V.heap.size) := by show _ ≤ _; rw [← hV]; simpa using HB3.out.size
  have HV : Hid _ := hV
  rw [hV] at hS ⊢
  clear hV hS3 b0 g0 hS
  refine wp_region_held_drew (S := fun w' => w'.cell? ⟨D, 1, none⟩ = some (.slice (some ⟨gk, 0, none⟩) L capk)) (by kernel_rfl) k1 (fun hS => ?_)
  refine wpAnyH_take (i := 0) (v := ?_) rfl (by kernel_rfl) (by kernel_rfl) (by kernel_rfl) (fun _ _ _ h => h) (Or.inl ⟨by rfl, ?_⟩) hS ?_
  rotate_left
  · intro w hSw
    try dsimp only at hSw
    go_simp
    try with_reducible rfl
  try simp only [Act.put, List.setIfInBounds_toArray, List.set_cons_zero, List.set_cons_succ]
  refine wpAnyH_take (i := 1) (v := ?_) rfl (by kernel_rfl) (by kernel_rfl) (by kernel_rfl) (fun _ _ _ h => h) (Or.inl ⟨by rfl, ?_⟩) hS ?_
  rotate_left
  · intro w hSw
    try dsimp only at hSw
    go_simp
    try with_reducible rfl
  try simp only [Act.put, List.setIfInBounds_toArray, List.set_cons_zero, List.set_cons_succ]
  refine wpAnyH_take (i := 2) (v := ?_) rfl (by kernel_rfl) (by kernel_rfl) (by kernel_rfl) (fun _ _ _ h => h) (Or.inl ⟨by rfl, ?_⟩) hS ?_
  rotate_left
  · intro w hSw
    try dsimp only at hSw
    go_simp
    try with_reducible rfl
  try simp only [Act.put, List.setIfInBounds_toArray, List.set_cons_zero, List.set_cons_succ]
  refine wpAnyH_take (i := 3) (v := ?_) rfl (by kernel_rfl) (by kernel_rfl) (by kernel_rfl) (fun _ _ _ h => h) (Or.inl ⟨by rfl, ?_⟩) hS ?_
  rotate_left
  · intro w hSw
    try dsimp only at hSw
    go_simp
    try with_reducible rfl
  try simp only [Act.put, List.setIfInBounds_toArray, List.set_cons_zero, List.set_cons_succ]
  refine wpAnyH_take (i := 4) (v := ?_) rfl (by kernel_rfl) (by kernel_rfl) (by kernel_rfl) (fun _ _ _ h => h) (Or.inl ⟨by rfl, ?_⟩) hS ?_
  rotate_left
  · intro w hSw
    try dsimp only at hSw
    go_simp
    try with_reducible rfl
  try simp only [Act.put, List.setIfInBounds_toArray, List.set_cons_zero, List.set_cons_succ]
  refine wpAnyH_take (i := 5) (v := ?_) rfl (by kernel_rfl) (by kernel_rfl) (by kernel_rfl) (fun _ _ _ h => h) (Or.inl ⟨by rfl, ?_⟩) hS ?_
  rotate_left
  · intro w hSw
    try dsimp only at hSw
    go_simp
    try with_reducible rfl
  try simp only [Act.put, List.setIfInBounds_toArray, List.set_cons_zero, List.set_cons_succ]
  refine wpAnyH_take (i := 6) (v := ?_) rfl (by kernel_rfl) (by kernel_rfl) (by kernel_rfl) (fun _ _ _ h => h) (Or.inl ⟨by rfl, ?_⟩) hS ?_
  rotate_left
  · intro w hSw
    try dsimp only at hSw
    go_simp
    try with_reducible rfl
  try simp only [Act.put, List.setIfInBounds_toArray, List.set_cons_zero, List.set_cons_succ]
  refine wpAnyH_take (i := 7) (v := ?_) rfl (by kernel_rfl) (by kernel_rfl) (by kernel_rfl) (fun _ _ _ h => h) (Or.inl ⟨by rfl, ?_⟩) hS ?_
  rotate_left
  · intro w hSw
    try dsimp only at hSw
    go_simp
    try with_reducible rfl
  try simp only [Act.put, List.setIfInBounds_toArray, List.set_cons_zero, List.set_cons_succ]
  refine wpAnyH_take (i := 8) (v := ?_) rfl (by kernel_rfl) (by kernel_rfl) (by kernel_rfl) (fun _ _ _ h => h) (Or.inl ⟨by rfl, ?_⟩) hS ?_
  rotate_left
  · intro w hSw
    try dsimp only at hSw
    go_simp
    try with_reducible rfl
  try simp only [Act.put, List.setIfInBounds_toArray, List.set_cons_zero, List.set_cons_succ]
  refine wpAnyH_take (i := 9) (v := ?_) rfl (by kernel_rfl) (by kernel_rfl) (by kernel_rfl) (fun _ _ _ h => h) (Or.inl ⟨by rfl, ?_⟩) hS ?_
  rotate_left
  · intro w hSw
    try dsimp only at hSw
    go_simp
    try with_reducible rfl
  try simp only [Act.put, List.setIfInBounds_toArray, List.set_cons_zero, List.set_cons_succ]
  refine wpAnyH_take (i := 10) (v := ?_) rfl (by kernel_rfl) (by kernel_rfl) (by kernel_rfl) (fun _ _ _ h => h) (Or.inl ⟨by rfl, ?_⟩) hS ?_
  rotate_left
  · intro w hSw
    try dsimp only at hSw
    go_simp
    try with_reducible rfl
  try simp only [Act.put, List.setIfInBounds_toArray, List.set_cons_zero, List.set_cons_succ]
  refine wpAnyH_take (i := 12) (v := ?_) rfl (by kernel_rfl) (by kernel_rfl) (by kernel_rfl) (fun _ _ _ h => h) (Or.inl ⟨by rfl, ?_⟩) hS ?_
  rotate_left
  · intro w hSw
    try dsimp only at hSw
    go_simp
    try with_reducible rfl
  try simp only [Act.put, List.setIfInBounds_toArray, List.set_cons_zero, List.set_cons_succ]
  refine wpAnyH_take (i := 13) (v := ?_) rfl (by kernel_rfl) (by kernel_rfl) (by kernel_rfl) (fun _ _ _ h => h) (Or.inl ⟨by rfl, ?_⟩) hS ?_
  rotate_left
  · intro w hSw
    try dsimp only at hSw
    go_simp
    try with_reducible rfl
  try simp only [Act.put, List.setIfInBounds_toArray, List.set_cons_zero, List.set_cons_succ]
  refine wpAnyH_ready (rs := [11]) (by kernel_rfl) (by simp) ?_
  refine AllReadyH.cons rfl (fun K hK => ?_) AllReadyH.nil
  go_simp
  refine hK.out _ _ hS (fun hS => ?_)
  try simp only [Act.put, List.setIfInBounds_toArray, List.set_cons_zero, List.set_cons_succ]
  clear hK K
  refine wpAnyH_ready (rs := [14]) (by kernel_rfl) (by simp) ?_
  refine AllReadyH.cons rfl (fun K hK => ?_) AllReadyH.nil
  go_simp
  refine (B2.out _).mono ?_
  rintro e w4 ⟨rfl, hb⟩
  have hS3 : w4.cell? ⟨D, 1, none⟩ = some (.slice (some ⟨gk, 0, none⟩) L capk) := (hb.cell (p := ⟨D, 1, none⟩) (Nat.lt_of_lt_of_le hD VS.out)).trans k1
  have b0 : w4.cell? ⟨gk, i, none⟩ = some (.string y) := (hb.cell (p := ⟨gk, i, none⟩) (Nat.lt_of_lt_of_le hgk VS.out)).trans k2
  have g0 : w4.frozen? ⟨gk, i, none⟩ = false := (hb.frozen (p := ⟨gk, i, none⟩) (Nat.lt_of_lt_of_le hgk VS.out)).trans k3
  have HB4 : Hid (Below w.heap.size V w4) := ((Below.refl _ _).drew).trans (hb.mono VS.out)
  clear hb k1 k2 k3
  go_wp2_with fail
  refine hK.out _ _ hS3 (fun hS => ?_)
  try simp only [Act.put, List.setIfInBounds_toArray, List.set_cons_zero, List.set_cons_succ]
  clear hK K
  refine wpAnyH_take (i := 15) (v := ?_) rfl (by kernel_rfl) (by kernel_rfl) (by kernel_rfl) (fun _ _ _ h => h) (Or.inl ⟨by rfl, ?_⟩) hS ?_
  rotate_left
  · intro w hSw
    try dsimp only at hSw
    go_simp
    try with_reducible rfl
  try simp only [Act.put, List.setIfInBounds_toArray, List.set_cons_zero, List.set_cons_succ]
  refine wpAnyH_ready (rs := [16]) (by kernel_rfl) (by simp) ?_
  refine AllReadyH.cons rfl (fun K hK => ?_) AllReadyH.nil
  go_simp
  refine hK.out _ _ ((World.cell?_of_block (Below.heap_setCell w4 ⟨gk, i, none⟩ _ D nDk)).trans hS3) (fun hS => ?_)
  try simp only [Act.put, List.setIfInBounds_toArray, List.set_cons_zero, List.set_cons_succ]
  clear hK K
  refine wpAnyH_done (by kernel_rfl) ?_ _
  go_wp2
  go_end0
  exact ⟨rfl, w3, w4, HB3.out, by rw [HV.out]; exact HB4.out, rfl⟩
end Go.Proofs.Ytnkgfoabadjboaa
