/-
  A new net, of the program. Conditions: the configuration is one; its widths are 1 to 4.
-/
import Derived.Test.YtoihkljlekknkaaGreatAp28
import Derived.Test.YtoihkljlekknkaaGreatAp23
namespace Go.Proofs.YtoihkljlekknkaaGreat
open Go.RowKit
open Go.Joins (cell_of_block unfrozen_of_block)
set_option linter.unusedVariables false
set_option linter.unusedSimpArgs false
set_option maxHeartbeats 16000000 in
set_option maxRecDepth 100000 in
theorem new_any (c : Cf) (m : Nat) (w : World) (hL : c.L = (m : Int) + 1) (m3 : m < 3) (wb : WB c) (one : ∀ k, k ≤ m + 1 → 1 ≤ wn c k) :
 Calls Tryz.prog 22 #[.agg (pcs c)] w fun e w' => ∃ t : Nt, t.c = c ∧ t.m = m ∧ t.ok ∧ NetR t w' ∧ e = .returned (.pointer (some ⟨t.N, 0, none⟩)) ∧ (∀ b, t.O b → w.heap.size ≤ b) ∧ Below w.heap.size w w' := by
 obtain ⟨X, hX⟩ : ∃ X, X = pcs c := ⟨_, rfl⟩
 have x0 : X[0]? = some (.int .i64 ((m : Int) + 1)) := by rw [hX, ← hL]; rfl
 have x5 : X[5]? = some (.int .i64 c.bend) := by rw [hX]; rfl
 have x6 : X[6]? = some (.int .i64 c.loss) := by rw [hX]; rfl
 have xw : Hid (∀ i, i < 4 → X[1 + i]? = some (.int .i64 (wn c i : Int))) := fun i hi => by rw [hX, pcs_wide c i hi, wn_eq wb i hi]
 obtain ⟨W, hW, b0, b1, bel, hws⟩ := two_blocks w X (zn (.slice none 0 0)) 31 88
 obtain ⟨Bc, hBc⟩ : ∃ B, B = w.heap.size := ⟨_, rfl⟩
 obtain ⟨N, hN⟩ : ∃ B, B = w.heap.size + 1 := ⟨_, rfl⟩
 rw [← hBc] at b0
 rw [← hN] at b1
 have R0 : Hid (NewR c X Bc N 0 (.slice none 0 0) (fun _ => 0) (fun _ => 0) W) := ⟨b0, b1, World.ownsRow_nil _ _ _ _, by omega, fun i hi => absurd hi (by omega), fun i hi => absurd hi (by omega), fun i hi => absurd hi (by omega), fun i hi => absurd hi (by omega), fun i hi => absurd hi (by omega)⟩
 have BE : Hid (Below w.heap.size w W) := bel
 have HW : Hid _ := hW
 have HB : Hid _ := hBc
 have HN : Hid _ := hN
 have NW : Hid (w.heap.size ≤ N) := by show _ ≤ _; omega
 have HWB : Hid _ := wb
 have HONE : Hid _ := one
 have NLc : Hid (∀ j, j < 3 → ∀ V, Calls Tryz.prog 51 #[.int .i64 (wn c j : Int), .int .i64 (wn c (j + 1) : Int), .int .i64 (sn c j : Int)] V fun e w' => ∃ g, e = .returned (.agg (LY (wn c j) (wn c (j + 1)) (sn c j) g)) ∧ V.heap.size ≤ g ∧ w'.heap[g]? = some (.cells (u32s (List.replicate (wn c (j + 1)) 0)) 29 (0, 0)) ∧ Below V.heap.size V w') := fun j hj V => newLayer_any _ _ _ V (by have := wn_le wb (j + 1) (by omega); omega)
 have NBc : Hid (∀ j, j < 3 → ∀ g V, Calls Tryz.prog 52 #[.agg (LY (wn c j) (wn c (j + 1)) (sn c j) g), .int .i64 c.bend] V fun e w' => ∃ h, e = .returned (.agg (BN (wn c j) (wn c (j + 1)) (sn c j) g c.bend h)) ∧ V.heap.size ≤ h ∧ w'.heap[h]? = some (.cells (u32s (List.replicate (wn c (j + 1)) 0)) 29 (0, 0)) ∧ Below V.heap.size V w') := fun j hj g V => newBent_any _ _ _ _ _ V (by have := wn_le wb (j + 1) (by omega); omega)
 have PEc : Hid (∀ j, j < 3 → ∀ Bt g V, V.heap[Bt]? = some (.cells (LY (wn c j) (wn c (j + 1)) (sn c j) g) 84 (0, 0)) → Calls Tryz.prog 53 #[.pointer (some ⟨Bt, 0, none⟩)] V fun e w' => e = .returned (.int .i64 (sn c (j + 1) : Int)) ∧ Below V.heap.size V w') := fun j hj Bt g V hV => by
  have s1 := sn_le wb j (by omega)
  have a1 := wn_le wb j (by omega)
  have a2 := wn_le wb (j + 1) (by omega)
  have := pend_any Bt 0 (sn c j : Int) (wn c j : Int) (wn c (j + 1) : Int) V (by omega) (by omega) (by omega) (cell_of_block hV 0) (cell_of_block hV 1) (cell_of_block hV 2)
  rw [show (sn c j : Int) + (wn c (j + 1) : Int) * (1 + (wn c j : Int)) = (sn c (j + 1) : Int) by rw [sn_succ wb j hj]; simp [Int.add_comm]] at this
  exact this
 obtain ⟨j0, ji, jz0, jz1, jz2⟩ := info_three Tryz.infoBn
 have INF : Hid (_ ∧ _ ∧ _ ∧ _) := ⟨ji, jz0, jz1, jz2⟩
 have S00 : Hid (sn c 0 = 0) := rfl
 have X0 : Hid _ := x0
 have X5 : Hid _ := x5
 have X6 : Hid _ := x6
 rw [← hX]
 clear hX hW b0 b1 bel hws hBc hN wb one ji jz0 jz1 jz2 x0 x5 x6 hL
 go_enter Tryz.func22, Tryz.ntmps22
 go_upto_region 2 with fail
 rw [show (w.alloc (.cells X 31)).alloc (.cells #[.slice none 0 0, .int .i64 0, .int .i64 0, .int .i64 0, .slice none 0 0, .slice none 0 0, .int .i64 0] 88) = W from HW.out]
 rw [← HN.out, ← HB.out]
 go_wp2
 go_loopw [4, 5] (fun fv kv wr => ∃ (j : Nat) (v : Value) (gs ga : Nat → Nat), j ≤ m ∧ fv = .int .i64 (sn c j : Int) ∧ kv = .int .i64 ((j : Int) + 1) ∧ Hid (NewR c X Bc N j v gs ga wr) ∧ Hid (Below w.heap.size w wr)) (fun _ kv _ => (m + 1) - (intOf kv).toNat)
 case atStart => exact ⟨0, _, _, _, by omega, by rw [S00.out]; rfl, rfl, R0.out, BE.out⟩
 case round =>
  clear R0 BE
  obtain ⟨j, v, gs, ga, hj, rfl, rfl, HR, BW⟩ := hrel
  have l0 : wr.cell? ⟨Bc, 0, none⟩ = some (.int .i64 ((m : Int) + 1)) := (cell_of_block HR.out.bc 0).trans X0.out
  by_cases hlt : j < m
  · have jm : (j : Int) + 1 < (m : Int) + 1 := by omega
    have KS6 : Hid (∀ V, Below wr.heap.size wr V → V.cell? ⟨Bc, 1 + j, none⟩ = some (.int .i64 (wn c j : Int)) ∧ V.cell? ⟨Bc, 1 + (j + 1), none⟩ = some (.int .i64 (wn c (j + 1) : Int))) := fun V b => by
     have h := (b.block _ (lt_of_heap HR.out.bc)).trans HR.out.bc
     exact ⟨(cell_of_block h _).trans (xw.out j (by omega)), (cell_of_block h _).trans (xw.out (j + 1) (by omega))⟩
    have s6 := KS6.out wr (Below.refl _ _)
    have NL1 : Hid (∀ V, Calls Tryz.prog 51 #[.int .i64 (wn c j : Int), .int .i64 (wn c (j + 1) : Int), .int .i64 (sn c j : Int)] V fun e w' => ∃ g, e = .returned (.agg (LY (wn c j) (wn c (j + 1)) (sn c j) g)) ∧ V.heap.size ≤ g ∧ w'.heap[g]? = some (.cells (u32s (List.replicate (wn c (j + 1)) 0)) 29 (0, 0)) ∧ Below V.heap.size V w') := NLc.out j (by omega)
    have NB1 : Hid (∀ g V, Calls Tryz.prog 52 #[.agg (LY (wn c j) (wn c (j + 1)) (sn c j) g), .int .i64 c.bend] V fun e w' => ∃ h, e = .returned (.agg (BN (wn c j) (wn c (j + 1)) (sn c j) g c.bend h)) ∧ V.heap.size ≤ h ∧ w'.heap[h]? = some (.cells (u32s (List.replicate (wn c (j + 1)) 0)) 29 (0, 0)) ∧ Below V.heap.size V w') := NBc.out j (by omega)
    have PE1 : Hid (∀ Bt g V, V.heap[Bt]? = some (.cells (LY (wn c j) (wn c (j + 1)) (sn c j) g) 84 (0, 0)) → Calls Tryz.prog 53 #[.pointer (some ⟨Bt, 0, none⟩)] V fun e w' => e = .returned (.int .i64 (sn c (j + 1) : Int)) ∧ Below V.heap.size V w') := PEc.out j (by omega)
    have wr1 : IntKind.i64.wrap ((j : Int) + 1 - 1) = (j : Int) := by rw [IntKind.wrap_i64]; omega
    have wr2 : IntKind.i64.wrap (j : Int) = (j : Int) := by rw [IntKind.wrap_i64]; omega
    have wr3 : IntKind.i64.wrap ((j : Int) + 1) = (j : Int) + 1 := by rw [IntKind.wrap_i64]; omega
    have jl4 : (j : Int) < 4 := by omega
    have jk4 : (j : Int) + 1 < 4 := by omega
    have j0' : (0 : Int) ≤ (j : Int) := by omega
    have j1' : (0 : Int) ≤ (j : Int) + 1 := by omega
    have HJ : Hid (j < 3) := by show _ < _; omega
    have OWR : Hid (∀ k, v.ownBlock = some k → N + 1 ≤ k ∧ k < wr.heap.size) := fun k hk => World.ownsRow.lt HR.out.ow k hk
    have SZB : Hid (Bc < N ∧ N < wr.heap.size) := ⟨HR.out.bN, lt_of_heap HR.out.nb⟩
    obtain ⟨pn, hpn⟩ : ∃ x, x = wn c j := ⟨_, rfl⟩
    obtain ⟨qn, hqn⟩ : ∃ x, x = wn c (j + 1) := ⟨_, rfl⟩
    obtain ⟨fn, hfn⟩ : ∃ x, x = sn c j := ⟨_, rfl⟩
    have HPN : Hid _ := hpn
    have HQN : Hid _ := hqn
    have HFN : Hid _ := hfn
    rw [← hpn, ← hqn] at KS6 s6
    rw [← hpn, ← hqn, ← hfn] at NL1 NB1 PE1
    rw [← hfn]
    clear hpn hqn hfn
    go_upto_region 6 with fail
    refine wp_region_held_drew (S := fun w' => w'.cell? ⟨Bc, 1 + j, none⟩ = some (.int .i64 (pn : Int)) ∧ w'.cell? ⟨Bc, 1 + (j + 1), none⟩ = some (.int .i64 (qn : Int))) (by kernel_rfl) s6 (fun hS => ?_)
    refine wpAnyH_take (i := 0) (oi := ⟨some 15, .move (.tmp 5), 3, "net.go:17", #[], none⟩) (v := ?_) rfl (by kernel_rfl) (by kernel_rfl) (by kernel_rfl) (fun _ _ _ h => h) (Or.inl ⟨by kernel_rfl, ?_⟩) hS ?_
    rotate_left
    · intro w hSw; (try dsimp only at hSw); go_simp; (try with_reducible rfl)
    try go_frame
    refine wpAnyH_take (i := 1) (oi := ⟨some 16, .binOp .sub 3 (.tmp 15) (.const (.int .i64 1)) 3, 3, "net.go:17", #[⟨0, .data⟩], none⟩) (v := ?_) rfl (by kernel_rfl) (by kernel_rfl) (by kernel_rfl) (fun _ _ _ h => h) (Or.inl ⟨by kernel_rfl, ?_⟩) hS ?_
    rotate_left
    · intro w hSw; (try dsimp only at hSw); go_simp; (try with_reducible rfl)
    try go_frame
    refine wpAnyH_take (i := 2) (oi := ⟨some 17, .fieldAddr 31 (.tmp 1) 1, 0, "net.go:17", #[], none⟩) (v := ?_) rfl (by kernel_rfl) (by kernel_rfl) (by kernel_rfl) (fun _ _ _ h => h) (Or.inl ⟨by kernel_rfl, ?_⟩) hS ?_
    rotate_left
    · intro w hSw; (try dsimp only at hSw); go_simp; (try with_reducible rfl)
    try go_frame
    refine wpAnyH_take (i := 3) (oi := ⟨some 18, .indexAddr 22 (.tmp 17) (.tmp 16), 0, "net.go:17", #[⟨2, .data⟩, ⟨1, .data⟩], none⟩) (v := ?_) rfl (by kernel_rfl) (by kernel_rfl) (by kernel_rfl) (fun _ _ _ h => h) (Or.inl ⟨by kernel_rfl, ?_⟩) hS ?_
    rotate_left
    · intro w hSw; (try dsimp only at hSw); go_simp; (try with_reducible rfl)
    try go_frame
    refine wpAnyH_take (i := 4) (oi := ⟨some 19, .load 3 (.tmp 18), 3, "net.go:17", #[⟨3, .data⟩], none⟩) (v := ?_) rfl (by kernel_rfl) (by kernel_rfl) (by kernel_rfl) (fun _ _ _ h => h) (Or.inl ⟨by kernel_rfl, ?_⟩) hS ?_
    rotate_left
    · intro w hSw; (try dsimp only at hSw); go_simp; (try with_reducible rfl)
    try go_frame
    refine wpAnyH_take (i := 5) (oi := ⟨some 20, .move (.tmp 5), 3, "net.go:17", #[], none⟩) (v := ?_) rfl (by kernel_rfl) (by kernel_rfl) (by kernel_rfl) (fun _ _ _ h => h) (Or.inl ⟨by kernel_rfl, ?_⟩) hS ?_
    rotate_left
    · intro w hSw; (try dsimp only at hSw); go_simp; (try with_reducible rfl)
    try go_frame
    refine wpAnyH_take (i := 6) (oi := ⟨some 21, .fieldAddr 31 (.tmp 1) 1, 0, "net.go:17", #[], none⟩) (v := ?_) rfl (by kernel_rfl) (by kernel_rfl) (by kernel_rfl) (fun _ _ _ h => h) (Or.inl ⟨by kernel_rfl, ?_⟩) hS ?_
    rotate_left
    · intro w hSw; (try dsimp only at hSw); go_simp; (try with_reducible rfl)
    try go_frame
    refine wpAnyH_take (i := 7) (oi := ⟨some 22, .indexAddr 22 (.tmp 21) (.tmp 20), 0, "net.go:17", #[⟨6, .data⟩, ⟨5, .data⟩], none⟩) (v := ?_) rfl (by kernel_rfl) (by kernel_rfl) (by kernel_rfl) (fun _ _ _ h => h) (Or.inl ⟨by kernel_rfl, ?_⟩) hS ?_
    rotate_left
    · intro w hSw; (try dsimp only at hSw); go_simp; (try with_reducible rfl)
    try go_frame
    refine wpAnyH_take (i := 8) (oi := ⟨some 23, .load 3 (.tmp 22), 3, "net.go:17", #[⟨7, .data⟩], none⟩) (v := ?_) rfl (by kernel_rfl) (by kernel_rfl) (by kernel_rfl) (fun _ _ _ h => h) (Or.inl ⟨by kernel_rfl, ?_⟩) hS ?_
    rotate_left
    · intro w hSw; (try dsimp only at hSw); go_simp; (try with_reducible rfl)
    try go_frame
    refine wpAnyH_take (i := 9) (oi := ⟨some 24, .move (.tmp 4), 3, "net.go:17", #[], none⟩) (v := ?_) rfl (by kernel_rfl) (by kernel_rfl) (by kernel_rfl) (fun _ _ _ h => h) (Or.inl ⟨by kernel_rfl, ?_⟩) hS ?_
    rotate_left
    · intro w hSw; (try dsimp only at hSw); go_simp; (try with_reducible rfl)
    try go_frame
    refine wpAnyH_ready (rs := [10, 11]) (by kernel_rfl) (by simp) ?_
    refine AllReadyH.cons (o := ⟨some 25, .call { callee := .value (.func 51), args := #[.tmp 19, .tmp 23, .tmp 24], argTypes := #[3, 3, 3] }, 84, "net.go:17", #[⟨4, .data⟩, ⟨8, .data⟩, ⟨9, .data⟩], none⟩) rfl (fun K hK => ?_) ?_
    · skip
      go_simp
      refine (NL1.out _).mono ?_
      rintro e w6 ⟨g, rfl, lg, zg, b6⟩
      have B6 : Hid (Below wr.heap.size wr w6) := ((Below.refl _ _).drew).trans b6
      have LG : Hid (wr.heap.size ≤ g) := lg
      have ZG6 : Hid _ := zg
      clear lg zg b6 hS
      go_wp2_with fail
      refine hK.out _ _ (KS6.out _ B6.out) (fun hS => ?_)
      try go_frame
      clear hK K
      refine wpAnyH_ready (rs := [11]) (by kernel_rfl) (by simp) ?_
      refine AllReadyH.cons (o := ⟨some 6, .alloc 84, 0, "net.go:17", #[], none⟩) rfl (fun K hK => ?_) AllReadyH.nil
      refine Tryz.step_alloc84 rfl rfl (fun Bt wA hA lA bA => ?_)
      have BU : Hid (Below wr.heap.size wr wA) := B6.out.trans (bA.mono B6.out.size)
      have LB : Hid (wr.heap.size ≤ Bt) := Nat.le_trans B6.out.size lA
      have TU : Hid _ := hA
      have GU : Hid (wA.heap[g]? = some (.cells (u32s (List.replicate qn 0)) 29 (0, 0))) := (bA.block _ (lt_of_heap ZG6.out)).trans ZG6.out
      have NEt : Hid (g ≠ Bt) := by have := lt_of_heap ZG6.out; show ¬ _; omega
      clear hA lA bA hS
      refine hK.out _ _ (KS6.out _ BU.out) (fun hS => ?_)
      try go_frame
      clear hK K
      refine wpAnyH_ready (rs := [12]) (by kernel_rfl) (by simp) ?_
      refine AllReadyH.cons (o := ⟨none, .store 84 (.tmp 6) (.tmp 25), 0, "net.go:17", #[⟨11, .data⟩, ⟨10, .data⟩, ⟨10, .chain⟩, ⟨0, .phase⟩, ⟨1, .phase⟩, ⟨2, .phase⟩, ⟨3, .phase⟩, ⟨4, .phase⟩, ⟨5, .phase⟩, ⟨6, .phase⟩, ⟨7, .phase⟩, ⟨8, .phase⟩, ⟨9, .phase⟩, ⟨10, .phase⟩, ⟨11, .phase⟩], none⟩) rfl (fun K hK => ?_) AllReadyH.nil
      rw [if_pos (by rfl)]
      refine wp_store_row 84 _ _ rfl Bt (LY pn qn fn g) rfl rfl 84 zl TU.out (LY_info _ _ _ _) rfl (LY_one _ _ _ _) ?_
      have BV : Hid (Below wr.heap.size wr (wA.setRow Bt (LY pn qn fn g))) := Below.setRow BU.out LB.out _
      refine hK.out _ _ (KS6.out _ BV.out) (fun hS => ?_)
      try go_frame
      clear hK K
      refine wpAnyH_done (by kernel_rfl) ?_ _
      clear hS s6
      obtain ⟨V, hV⟩ : ∃ V, V = wA.setRow Bt (LY pn qn fn g) := ⟨_, rfl⟩
      have TV : Hid (V.heap[Bt]? = some (.cells (LY pn qn fn g) 84 (0, 0))) := by show _ = _; rw [hV]; exact setRow_heap _ _ _ _ _ _ TU.out
      have GV : Hid (V.heap[g]? = some (.cells (u32s (List.replicate qn 0)) 29 (0, 0))) := by show _ = _; rw [hV, setRow_other _ _ _ _ NEt.out]; exact GU.out
      rw [← hV] at BV ⊢
      clear hV TU GU BU B6 ZG6
      have NV : Hid (V.heap[N]? = some (.cells (zn v) 88 (0, 0))) := (BV.out.block _ SZB.out.2).trans HR.out.nb
      have CV : Hid (V.heap[Bc]? = some (.cells X 31 (0, 0))) := (BV.out.block _ (lt_of_heap HR.out.bc)).trans HR.out.bc
      have OV : Hid (V.ownsRow (N + 1) 91 7 v j (BNS c gs ga j)) := owns_below HR.out.ow BV.out
      have KS7 : Hid (∀ V' : World, V'.heap[Bt]? = V.heap[Bt]? → V'.heap[Bc]? = V.heap[Bc]? → V'.rangeAt Bt 0 (LY pn qn fn g).toList ∧ V'.cell? ⟨Bc, 5, none⟩ = some (.int .i64 c.bend)) := fun V' h1 h2 => ⟨rng (h1.trans TV.out), (cell_of_block (h2.trans CV.out) 5).trans X5.out⟩
      have s7 := KS7.out V rfl rfl
      have n7 : V.cell? ⟨N, 0, none⟩ = some v := cell_of_block NV.out 0
      have NB2 := NB1.out g
      have NB3 : Hid _ := NB2
      clear NB2
      have HI84 : Hid _ := LY_infoL pn qn fn g
      go_upto_region 7 with fail
      refine wp_region_held_drew (S := fun w' => w'.rangeAt Bt 0 (LY pn qn fn g).toList ∧ w'.cell? ⟨Bc, 5, none⟩ = some (.int .i64 c.bend)) (by kernel_rfl) s7 (fun hS => ?_)
      refine wpAnyH_take (i := 0) (oi := ⟨some 26, .move (.tmp 3), 57, "net.go:18", #[], none⟩) (v := ?_) rfl (by kernel_rfl) (by kernel_rfl) (by kernel_rfl) (fun _ _ _ h => h) (Or.inl ⟨by kernel_rfl, ?_⟩) hS ?_
      rotate_left
      · intro w hSw; (try dsimp only at hSw); go_simp; (try with_reducible rfl)
      try go_frame
      refine wpAnyH_take (i := 1) (oi := ⟨some 27, .move (.tmp 3), 57, "net.go:18", #[], none⟩) (v := ?_) rfl (by kernel_rfl) (by kernel_rfl) (by kernel_rfl) (fun _ _ _ h => h) (Or.inl ⟨by kernel_rfl, ?_⟩) hS ?_
      rotate_left
      · intro w hSw; (try dsimp only at hSw); go_simp; (try with_reducible rfl)
      try go_frame
      refine wpAnyH_take (i := 2) (oi := ⟨some 28, .nilCheck (.tmp 27), 0, "net.go:18", #[⟨1, .data⟩], none⟩) (v := ?_) rfl (by kernel_rfl) (by kernel_rfl) (by kernel_rfl) (fun _ _ _ h => h) (Or.inl ⟨by kernel_rfl, ?_⟩) hS ?_
      rotate_left
      · intro w hSw; (try dsimp only at hSw); go_simp; (try with_reducible rfl)
      try go_frame
      refine wpAnyH_take (i := 3) (oi := ⟨some 29, .fieldAddr 88 (.tmp 28) 0, 0, "net.go:18", #[⟨2, .data⟩], none⟩) (v := ?_) rfl (by kernel_rfl) (by kernel_rfl) (by kernel_rfl) (fun _ _ _ h => h) (Or.inl ⟨by kernel_rfl, ?_⟩) hS ?_
      rotate_left
      · intro w hSw; (try dsimp only at hSw); go_simp; (try with_reducible rfl)
      try go_frame
      refine wpAnyH_take (i := 5) (oi := ⟨some 31, .load 84 (.tmp 6), 84, "net.go:18", #[], none⟩) (v := .agg (LY pn qn fn g).toList.toArray) rfl (by kernel_rfl) (by kernel_rfl) (by kernel_rfl) (fun _ _ _ h => h) (yieldsIf_load_mid (by rfl) 84 _ rfl Bt 0 rfl (LY pn qn fn g).toList _ (fun w h => h.1) Tryz.underlying84 rfl HI84.out) hS ?_
      rw [Array.toArray_toList]
      try go_frame
      refine wpAnyH_take (i := 6) (oi := ⟨some 32, .fieldAddr 31 (.tmp 1) 2, 0, "net.go:18", #[], none⟩) (v := ?_) rfl (by kernel_rfl) (by kernel_rfl) (by kernel_rfl) (fun _ _ _ h => h) (Or.inl ⟨by kernel_rfl, ?_⟩) hS ?_
      rotate_left
      · intro w hSw; (try dsimp only at hSw); go_simp; (try with_reducible rfl)
      try go_frame
      refine wpAnyH_take (i := 7) (oi := ⟨some 33, .load 3 (.tmp 32), 3, "net.go:18", #[⟨6, .data⟩], none⟩) (v := ?_) rfl (by kernel_rfl) (by kernel_rfl) (by kernel_rfl) (fun _ _ _ h => h) (Or.inl ⟨by kernel_rfl, ?_⟩) hS ?_
      rotate_left
      · intro w hSw; (try dsimp only at hSw); go_simp; (try with_reducible rfl)
      try go_frame
      refine wpAnyH_ready (rs := [4, 8]) (by kernel_rfl) (by simp) ?_
      refine AllReadyH.cons (o := ⟨some 30, .load 82 (.tmp 29), 82, "net.go:18", #[⟨3, .data⟩], none⟩) rfl (fun K hK => ?_) ?_
      · skip
        go_simp
        refine hK.out _ _ hS (fun hS => ?_)
        try go_frame
        clear hK K
        refine wpAnyH_ready (rs := [8]) (by kernel_rfl) (by simp) ?_
        refine AllReadyH.cons (o := ⟨some 34, .call { callee := .value (.func 52), args := #[.tmp 31, .tmp 33], argTypes := #[84, 3] }, 91, "net.go:18", #[⟨5, .data⟩, ⟨7, .data⟩], none⟩) rfl (fun K hK => ?_) AllReadyH.nil
        go_simp
        refine (NB3.out _).mono ?_
        rintro e w8 ⟨h, rfl, lh, zh, b8⟩
        have B8 : Hid (Below V.heap.size V w8) := ((Below.refl _ _).drew).trans b8
        have LH : Hid (V.heap.size ≤ h) := lh
        have ZH8 : Hid _ := zh
        have n8 : w8.cell? ⟨N, 0, none⟩ = some v := (B8.out.cell (p := ⟨N, 0, none⟩) (lt_of_heap NV.out)).trans n7
        clear lh zh b8 hS
        go_wp2_with fail
        refine hK.out _ _ (KS7.out _ (B8.out.block _ (lt_of_heap TV.out)) (B8.out.block _ (lt_of_heap CV.out))) (fun hS => ?_)
        try go_frame
        clear hK K
        refine wpAnyH_ready (rs := [9]) (by kernel_rfl) (by simp) ?_
        refine AllReadyH.cons (o := ⟨some 35, .buildSlice 82 1 #[(0, .tmp 34)], 82, "net.go:18", #[⟨8, .data⟩], none⟩) rfl (fun K hK => ?_) AllReadyH.nil
        refine Tryz.step_row82 rfl _ rfl _ _ _ _ _ _ rfl ?_
        obtain ⟨w9, hw9⟩ : ∃ x, x = w8.alloc (.cells (BN pn qn fn g c.bend h) 91) := ⟨_, rfl⟩
        have a9 : Below w8.heap.size w8 w9 := by rw [hw9]; exact (Below.refl _ _).alloc (Nat.le_refl _) _
        have B9 : Hid (Below V.heap.size V w9) := B8.out.trans (a9.mono B8.out.size)
        have OA : Hid (w9.ownsRow (N + 1) 91 7 v j (BNS c gs ga j)) := owns_below OV.out B9.out
        have NW9 : Hid (∀ i u, (BN pn qn fn g c.bend h).toList[i]? = some u → w9.cell? ((⟨w8.heap.size, 0, none⟩ : Addr).add i) = some u) := by rw [hw9]; exact new_cells w8 _ rfl (BN pn qn fn g c.bend h).toList 91
        have ZH9 : Hid (w9.heap[h]? = some (.cells (u32s (List.replicate qn 0)) 29 (0, 0))) := (a9.block _ (lt_of_heap ZH8.out)).trans ZH8.out
        have S89 : Hid (h < w9.heap.size) := lt_of_heap ZH9.out
        have n9 : w9.cell? ⟨N, 0, none⟩ = some v := (B9.out.cell (p := ⟨N, 0, none⟩) (lt_of_heap NV.out)).trans n7
        rw [← hw9]
        clear hw9 a9 hS
        refine hK.out _ _ (KS7.out _ (B9.out.block _ (lt_of_heap TV.out)) (B9.out.block _ (lt_of_heap CV.out))) (fun hS => ?_)
        try go_frame
        clear hK K
        refine wpAnyH_ready (rs := [10]) (by kernel_rfl) (by simp) ?_
        refine AllReadyH.cons (o := ⟨some 36, .call { callee := .builtin .append, args := #[.tmp 30, .tmp 35], argTypes := #[82, 82] }, 82, "net.go:18", #[⟨4, .data⟩, ⟨9, .data⟩, ⟨8, .chain⟩], none⟩) rfl (fun K hK => ?_) AllReadyH.nil
        refine step_append_lies _ rfl _ _ 82 rfl (N + 1) 91 j0 _ 7 104 Tryz.under82 INF.out.1 INF.out.2.1 INF.out.2.2.1 INF.out.2.2.2 rfl (by decide) _ _ _ rfl OA.out ⟨w8.heap.size, 0, none⟩ 1 1 (BN pn qn fn g c.bend h).toList rfl rfl NW9.out (BN_cells _ _ _ _ _ _) (by decide) (by unfold maxLen; have := HJ.out; omega) (by have := HJ.out; omega) (by have h1 := SZB.out.2; have h2 := BV.out.size; have h3 := B9.out.size; omega) _ rfl ?_
        intro B cap w10 hown hgrow hat hlt2
        have OB : Hid _ := hown
        have HAT : Hid _ := hat
        have G10 : Hid (∀ k, k < w9.heap.size → some k ≠ v.ownBlock → w10.heap[k]? = w9.heap[k]?) := hgrow.block
        have F10 : Hid (w10.os = w9.os ∧ w10.tape = w9.tape ∧ w10.output = w9.output ∧ w9.heap.size ≤ w10.heap.size) := ⟨hgrow.os, hgrow.tape, hgrow.output, hgrow.size⟩
        have V9 : Hid (∀ k, k < V.heap.size → some k ≠ v.ownBlock → w10.heap[k]? = V.heap[k]?) := fun k hk ho => (G10.out k (Nat.lt_of_lt_of_le hk B9.out.size) ho).trans (B9.out.block k hk)
        have nt : some Bt ≠ v.ownBlock := fun q => by have h1 := OWR.out _ q.symm; have h2 := LB.out; omega
        have nc : some Bc ≠ v.ownBlock := fun q => by have h1 := OWR.out _ q.symm; have h2 := SZB.out.1; omega
        have nn : some N ≠ v.ownBlock := fun q => by have h1 := OWR.out _ q.symm; omega
        have N10 : Hid (w10.heap[N]? = some (.cells (zn v) 88 (0, 0))) := (V9.out N (lt_of_heap NV.out) nn).trans NV.out
        have E1 : Hid (w10.heap[Bt]? = V.heap[Bt]?) := V9.out Bt (lt_of_heap TV.out) nt
        have E2 : Hid (w10.heap[Bc]? = V.heap[Bc]?) := V9.out Bc (lt_of_heap CV.out) nc
        have n10 : w10.cell? ⟨N, 0, none⟩ = some v := cell_of_block N10.out 0
        have z10 : w10.frozen? ⟨N, 0, none⟩ = false := unfrozen_of_block N10.out _
        clear hown hgrow hat hlt2 nt nc nn hS n7 n8 n9
        refine hK.out _ _ (KS7.out _ E1.out E2.out) (fun hS => ?_)
        try go_frame
        clear hK K
        refine wpAnyH_take (i := 11) (oi := ⟨some 37, .nilCheck (.tmp 26), 0, "net.go:18", #[⟨0, .data⟩, ⟨0, .phase⟩, ⟨1, .phase⟩, ⟨2, .phase⟩, ⟨3, .phase⟩, ⟨4, .phase⟩, ⟨5, .phase⟩, ⟨6, .phase⟩, ⟨7, .phase⟩, ⟨8, .phase⟩, ⟨9, .phase⟩, ⟨10, .phase⟩], none⟩) (v := ?_) rfl (by kernel_rfl) (by kernel_rfl) (by kernel_rfl) (fun _ _ _ h => h) (Or.inl ⟨by kernel_rfl, ?_⟩) hS ?_
        rotate_left
        · intro w hSw; (try dsimp only at hSw); go_simp; (try with_reducible rfl)
        try go_frame
        refine wpAnyH_take (i := 12) (oi := ⟨some 38, .fieldAddr 88 (.tmp 37) 0, 0, "net.go:18", #[⟨11, .data⟩, ⟨0, .phase⟩, ⟨1, .phase⟩, ⟨2, .phase⟩, ⟨3, .phase⟩, ⟨4, .phase⟩, ⟨5, .phase⟩, ⟨6, .phase⟩, ⟨7, .phase⟩, ⟨8, .phase⟩, ⟨9, .phase⟩, ⟨10, .phase⟩], none⟩) (v := ?_) rfl (by kernel_rfl) (by kernel_rfl) (by kernel_rfl) (fun _ _ _ h => h) (Or.inl ⟨by kernel_rfl, ?_⟩) hS ?_
        rotate_left
        · intro w hSw; (try dsimp only at hSw); go_simp; (try with_reducible rfl)
        try go_frame
        refine wpAnyH_ready (rs := [13]) (by kernel_rfl) (by simp) ?_
        refine AllReadyH.cons (o := ⟨none, .store 82 (.tmp 38) (.tmp 36), 0, "net.go:18", #[⟨12, .data⟩, ⟨10, .data⟩, ⟨10, .chain⟩, ⟨0, .phase⟩, ⟨1, .phase⟩, ⟨2, .phase⟩, ⟨3, .phase⟩, ⟨4, .phase⟩, ⟨5, .phase⟩, ⟨6, .phase⟩, ⟨7, .phase⟩, ⟨8, .phase⟩, ⟨9, .phase⟩, ⟨10, .phase⟩], none⟩) rfl (fun K hK => ?_) AllReadyH.nil
        go_simp
        refine hK.out _ _ (KS7.out _ ((heap_set_ne w10 N 0 Bt _ (by have h1 := SZB.out.2; have h2 := LB.out; omega)).trans E1.out) ((heap_set_ne w10 N 0 Bc _ (by have h1 := SZB.out.1; omega)).trans E2.out)) (fun hS => ?_)
        try go_frame
        clear hK K
        refine wpAnyH_done (by kernel_rfl) ?_ _
        clear hS s7 n10 z10
        obtain ⟨Z, hZ⟩ : ∃ Z, Z = w10.setCell ⟨N, 0, none⟩ (.slice (some ⟨B, 0, none⟩) (j + 1) cap) := ⟨_, rfl⟩
        have TZ : Hid (Z.heap[Bt]? = some (.cells (LY pn qn fn g) 84 (0, 0))) := by show _ = _; rw [hZ, heap_set_ne w10 N 0 Bt _ (by have h1 := SZB.out.2; have h2 := LB.out; omega), E1.out]; exact TV.out
        have NZ : Hid (Z.heap[N]? = some (.cells (zn (.slice (some ⟨B, 0, none⟩) (j + 1) cap)) 88 (0, 0))) := by show _ = _; rw [hZ, heap_set w10 N 0 _ _ 88 (0, 0) N10.out]; rfl
        have KZ : Hid (∀ k, k ≠ N → Z.heap[k]? = w10.heap[k]?) := fun k hk => by rw [hZ]; exact heap_set_ne w10 N 0 k _ hk
        have FZ : Hid (Z.os = w10.os ∧ Z.tape = w10.tape ∧ Z.output = w10.output ∧ Z.heap.size = w10.heap.size) := by rw [hZ]; exact ⟨rfl, rfl, rfl, by simp [World.setCell]⟩
        rw [← hZ]
        clear hZ
        go_wp2_with (first
         | (go_at_call 53; refine (PE1.out Bt g _ TZ.out).mono ?_; rintro e w11 ⟨rfl, b11⟩
            have B11 : Hid _ := b11
            clear b11))
        have GK : Hid (∀ k, k < wr.heap.size → k ≠ N → some k ≠ v.ownBlock → w11.heap[k]? = wr.heap[k]?) := fun k hk h1 h2 => by
         have hV : k < V.heap.size := Nat.lt_of_lt_of_le hk BV.out.size
         have hZs : k < Z.heap.size := by rw [FZ.out.2.2.2]; exact Nat.lt_of_lt_of_le (Nat.lt_of_lt_of_le hV B9.out.size) F10.out.2.2.2
         rw [B11.out.block k hZs, KZ.out k h1, V9.out k hV h2]; exact BV.out.block k hk
        have ZS : Hid (∀ k l, w9.heap[k]? = some l → some k ≠ v.ownBlock → k ≠ N → w11.heap[k]? = some l) := fun k l hk h2 h1 => by
         have hl : k < w9.heap.size := (Array.getElem?_eq_some_iff.1 hk).1
         have hZs : k < Z.heap.size := by rw [FZ.out.2.2.2]; exact Nat.lt_of_lt_of_le hl F10.out.2.2.2
         rw [B11.out.block k hZs, KZ.out k h1, G10.out k hl h2]; exact hk
        have NO : Hid (∀ k, wr.heap.size ≤ k → some k ≠ v.ownBlock ∧ k ≠ N) := fun k hk => ⟨fun q => by have h1 := OWR.out _ q.symm; omega, by have h1 := SZB.out.2; omega⟩
        have Z9 : Hid (w9.heap[g]? = some (.cells (u32s (List.replicate qn 0)) 29 (0, 0))) := (B9.out.block _ (lt_of_heap GV.out)).trans GV.out
        have R1 : Hid (NewR c X Bc N (j + 1) (.slice (some ⟨B, 0, none⟩) (j + 1) cap) (fun i => if i = j then g else gs i) (fun i => if i = j then h else ga i) w11) := by
         have lgv := lt_of_heap GV.out
         have lhv := LH.out
         refine new_step HR.out g h B cap LG.out (by omega) GK.out ((B11.out.block N (lt_of_heap NZ.out)).trans NZ.out) ?_ ?_ ?_ ?_
         · have o1 : Z.ownsRow (N + 1) 91 7 (.slice (some ⟨B, 0, none⟩) (j + 1) cap) (j + 1) (BNS c gs ga j ++ (BN pn qn fn g c.bend h).toList) := by
            refine ⟨OB.out.1, ?_⟩
            rcases OB.out.2 with ⟨e, _⟩ | ⟨g', cap', cur, e, h1, h2, h3⟩
            · simp at e
            · refine Or.inr ⟨g', cap', cur, e, h1, ?_, h3⟩
              rw [KZ.out g' (by omega)]; exact h2
           have o2 := owns_below o1 B11.out
           rw [HPN.out, HQN.out, HFN.out] at o2; exact o2
         · rw [← HQN.out]; exact ZS.out g _ Z9.out (NO.out g LG.out).1 (NO.out g LG.out).2
         · rw [← HQN.out]; have hh : wr.heap.size ≤ h := by have := LG.out; omega
           exact ZS.out h _ ZH9.out (NO.out h hh).1 (NO.out h hh).2
         · rcases HAT.out with q | q
           · exact Or.inl q
           · exact Or.inr (by have := S89.out; omega)
        have B12 : Hid (Below w.heap.size w w11) := by
         refine ⟨?_, ?_, ?_, ?_, fun k hk => ?_⟩
         · rw [B11.out.os, FZ.out.1, F10.out.1, B9.out.os, BV.out.os]; exact BW.out.os
         · rw [B11.out.tape, FZ.out.2.1, F10.out.2.1, B9.out.tape, BV.out.tape]; exact BW.out.tape
         · rw [B11.out.output, FZ.out.2.2.1, F10.out.2.2.1, B9.out.output, BV.out.output]; exact BW.out.output
         · have h1 := B11.out.size; have h2 := FZ.out.2.2.2; have h3 := F10.out.2.2.2; have h4 := B9.out.size; have h5 := BV.out.size; have h6 := BW.out.size; omega
         · have hN := NW.out
           refine (GK.out k (Nat.lt_of_lt_of_le hk BW.out.size) (by omega) (fun q => ?_)).trans (BW.out.block k hk)
           have := OWR.out _ q.symm; omega
        go_roundw
        case rel => exact ⟨j + 1, _, _, _, by omega, rfl, by go_num, R1.out, B12.out⟩
        case measure => simp [intOf]; omega
      refine AllReadyH.cons (o := ⟨some 34, .call { callee := .value (.func 52), args := #[.tmp 31, .tmp 33], argTypes := #[84, 3] }, 91, "net.go:18", #[⟨5, .data⟩, ⟨7, .data⟩], none⟩) rfl (fun K hK => ?_) AllReadyH.nil
      go_simp
      refine (NB3.out _).mono ?_
      rintro e w8 ⟨h, rfl, lh, zh, b8⟩
      have B8 : Hid (Below V.heap.size V w8) := ((Below.refl _ _).drew).trans b8
      have LH : Hid (V.heap.size ≤ h) := lh
      have ZH8 : Hid _ := zh
      have n8 : w8.cell? ⟨N, 0, none⟩ = some v := (B8.out.cell (p := ⟨N, 0, none⟩) (lt_of_heap NV.out)).trans n7
      clear lh zh b8 hS
      go_wp2_with fail
      refine hK.out _ _ (KS7.out _ (B8.out.block _ (lt_of_heap TV.out)) (B8.out.block _ (lt_of_heap CV.out))) (fun hS => ?_)
      try go_frame
      clear hK K
      refine wpAnyH_ready (rs := [4, 9]) (by kernel_rfl) (by simp) ?_
      refine AllReadyH.cons (o := ⟨some 30, .load 82 (.tmp 29), 82, "net.go:18", #[⟨3, .data⟩], none⟩) rfl (fun K hK => ?_) ?_
      · skip
        go_simp
        refine hK.out _ _ hS (fun hS => ?_)
        try go_frame
        clear hK K
        refine wpAnyH_ready (rs := [9]) (by kernel_rfl) (by simp) ?_
        refine AllReadyH.cons (o := ⟨some 35, .buildSlice 82 1 #[(0, .tmp 34)], 82, "net.go:18", #[⟨8, .data⟩], none⟩) rfl (fun K hK => ?_) AllReadyH.nil
        refine Tryz.step_row82 rfl _ rfl _ _ _ _ _ _ rfl ?_
        obtain ⟨w9, hw9⟩ : ∃ x, x = w8.alloc (.cells (BN pn qn fn g c.bend h) 91) := ⟨_, rfl⟩
        have a9 : Below w8.heap.size w8 w9 := by rw [hw9]; exact (Below.refl _ _).alloc (Nat.le_refl _) _
        have B9 : Hid (Below V.heap.size V w9) := B8.out.trans (a9.mono B8.out.size)
        have OA : Hid (w9.ownsRow (N + 1) 91 7 v j (BNS c gs ga j)) := owns_below OV.out B9.out
        have NW9 : Hid (∀ i u, (BN pn qn fn g c.bend h).toList[i]? = some u → w9.cell? ((⟨w8.heap.size, 0, none⟩ : Addr).add i) = some u) := by rw [hw9]; exact new_cells w8 _ rfl (BN pn qn fn g c.bend h).toList 91
        have ZH9 : Hid (w9.heap[h]? = some (.cells (u32s (List.replicate qn 0)) 29 (0, 0))) := (a9.block _ (lt_of_heap ZH8.out)).trans ZH8.out
        have S89 : Hid (h < w9.heap.size) := lt_of_heap ZH9.out
        have n9 : w9.cell? ⟨N, 0, none⟩ = some v := (B9.out.cell (p := ⟨N, 0, none⟩) (lt_of_heap NV.out)).trans n7
        rw [← hw9]
        clear hw9 a9 hS
        refine hK.out _ _ (KS7.out _ (B9.out.block _ (lt_of_heap TV.out)) (B9.out.block _ (lt_of_heap CV.out))) (fun hS => ?_)
        try go_frame
        clear hK K
        refine wpAnyH_ready (rs := [10]) (by kernel_rfl) (by simp) ?_
        refine AllReadyH.cons (o := ⟨some 36, .call { callee := .builtin .append, args := #[.tmp 30, .tmp 35], argTypes := #[82, 82] }, 82, "net.go:18", #[⟨4, .data⟩, ⟨9, .data⟩, ⟨8, .chain⟩], none⟩) rfl (fun K hK => ?_) AllReadyH.nil
        refine step_append_lies _ rfl _ _ 82 rfl (N + 1) 91 j0 _ 7 104 Tryz.under82 INF.out.1 INF.out.2.1 INF.out.2.2.1 INF.out.2.2.2 rfl (by decide) _ _ _ rfl OA.out ⟨w8.heap.size, 0, none⟩ 1 1 (BN pn qn fn g c.bend h).toList rfl rfl NW9.out (BN_cells _ _ _ _ _ _) (by decide) (by unfold maxLen; have := HJ.out; omega) (by have := HJ.out; omega) (by have h1 := SZB.out.2; have h2 := BV.out.size; have h3 := B9.out.size; omega) _ rfl ?_
        intro B cap w10 hown hgrow hat hlt2
        have OB : Hid _ := hown
        have HAT : Hid _ := hat
        have G10 : Hid (∀ k, k < w9.heap.size → some k ≠ v.ownBlock → w10.heap[k]? = w9.heap[k]?) := hgrow.block
        have F10 : Hid (w10.os = w9.os ∧ w10.tape = w9.tape ∧ w10.output = w9.output ∧ w9.heap.size ≤ w10.heap.size) := ⟨hgrow.os, hgrow.tape, hgrow.output, hgrow.size⟩
        have V9 : Hid (∀ k, k < V.heap.size → some k ≠ v.ownBlock → w10.heap[k]? = V.heap[k]?) := fun k hk ho => (G10.out k (Nat.lt_of_lt_of_le hk B9.out.size) ho).trans (B9.out.block k hk)
        have nt : some Bt ≠ v.ownBlock := fun q => by have h1 := OWR.out _ q.symm; have h2 := LB.out; omega
        have nc : some Bc ≠ v.ownBlock := fun q => by have h1 := OWR.out _ q.symm; have h2 := SZB.out.1; omega
        have nn : some N ≠ v.ownBlock := fun q => by have h1 := OWR.out _ q.symm; omega
        have N10 : Hid (w10.heap[N]? = some (.cells (zn v) 88 (0, 0))) := (V9.out N (lt_of_heap NV.out) nn).trans NV.out
        have E1 : Hid (w10.heap[Bt]? = V.heap[Bt]?) := V9.out Bt (lt_of_heap TV.out) nt
        have E2 : Hid (w10.heap[Bc]? = V.heap[Bc]?) := V9.out Bc (lt_of_heap CV.out) nc
        have n10 : w10.cell? ⟨N, 0, none⟩ = some v := cell_of_block N10.out 0
        have z10 : w10.frozen? ⟨N, 0, none⟩ = false := unfrozen_of_block N10.out _
        clear hown hgrow hat hlt2 nt nc nn hS n7 n8 n9
        refine hK.out _ _ (KS7.out _ E1.out E2.out) (fun hS => ?_)
        try go_frame
        clear hK K
        refine wpAnyH_take (i := 11) (oi := ⟨some 37, .nilCheck (.tmp 26), 0, "net.go:18", #[⟨0, .data⟩, ⟨0, .phase⟩, ⟨1, .phase⟩, ⟨2, .phase⟩, ⟨3, .phase⟩, ⟨4, .phase⟩, ⟨5, .phase⟩, ⟨6, .phase⟩, ⟨7, .phase⟩, ⟨8, .phase⟩, ⟨9, .phase⟩, ⟨10, .phase⟩], none⟩) (v := ?_) rfl (by kernel_rfl) (by kernel_rfl) (by kernel_rfl) (fun _ _ _ h => h) (Or.inl ⟨by kernel_rfl, ?_⟩) hS ?_
        rotate_left
        · intro w hSw; (try dsimp only at hSw); go_simp; (try with_reducible rfl)
        try go_frame
        refine wpAnyH_take (i := 12) (oi := ⟨some 38, .fieldAddr 88 (.tmp 37) 0, 0, "net.go:18", #[⟨11, .data⟩, ⟨0, .phase⟩, ⟨1, .phase⟩, ⟨2, .phase⟩, ⟨3, .phase⟩, ⟨4, .phase⟩, ⟨5, .phase⟩, ⟨6, .phase⟩, ⟨7, .phase⟩, ⟨8, .phase⟩, ⟨9, .phase⟩, ⟨10, .phase⟩], none⟩) (v := ?_) rfl (by kernel_rfl) (by kernel_rfl) (by kernel_rfl) (fun _ _ _ h => h) (Or.inl ⟨by kernel_rfl, ?_⟩) hS ?_
        rotate_left
        · intro w hSw; (try dsimp only at hSw); go_simp; (try with_reducible rfl)
        try go_frame
        refine wpAnyH_ready (rs := [13]) (by kernel_rfl) (by simp) ?_
        refine AllReadyH.cons (o := ⟨none, .store 82 (.tmp 38) (.tmp 36), 0, "net.go:18", #[⟨12, .data⟩, ⟨10, .data⟩, ⟨10, .chain⟩, ⟨0, .phase⟩, ⟨1, .phase⟩, ⟨2, .phase⟩, ⟨3, .phase⟩, ⟨4, .phase⟩, ⟨5, .phase⟩, ⟨6, .phase⟩, ⟨7, .phase⟩, ⟨8, .phase⟩, ⟨9, .phase⟩, ⟨10, .phase⟩], none⟩) rfl (fun K hK => ?_) AllReadyH.nil
        go_simp
        refine hK.out _ _ (KS7.out _ ((heap_set_ne w10 N 0 Bt _ (by have h1 := SZB.out.2; have h2 := LB.out; omega)).trans E1.out) ((heap_set_ne w10 N 0 Bc _ (by have h1 := SZB.out.1; omega)).trans E2.out)) (fun hS => ?_)
        try go_frame
        clear hK K
        refine wpAnyH_done (by kernel_rfl) ?_ _
        clear hS s7 n10 z10
        obtain ⟨Z, hZ⟩ : ∃ Z, Z = w10.setCell ⟨N, 0, none⟩ (.slice (some ⟨B, 0, none⟩) (j + 1) cap) := ⟨_, rfl⟩
        have TZ : Hid (Z.heap[Bt]? = some (.cells (LY pn qn fn g) 84 (0, 0))) := by show _ = _; rw [hZ, heap_set_ne w10 N 0 Bt _ (by have h1 := SZB.out.2; have h2 := LB.out; omega), E1.out]; exact TV.out
        have NZ : Hid (Z.heap[N]? = some (.cells (zn (.slice (some ⟨B, 0, none⟩) (j + 1) cap)) 88 (0, 0))) := by show _ = _; rw [hZ, heap_set w10 N 0 _ _ 88 (0, 0) N10.out]; rfl
        have KZ : Hid (∀ k, k ≠ N → Z.heap[k]? = w10.heap[k]?) := fun k hk => by rw [hZ]; exact heap_set_ne w10 N 0 k _ hk
        have FZ : Hid (Z.os = w10.os ∧ Z.tape = w10.tape ∧ Z.output = w10.output ∧ Z.heap.size = w10.heap.size) := by rw [hZ]; exact ⟨rfl, rfl, rfl, by simp [World.setCell]⟩
        rw [← hZ]
        clear hZ
        go_wp2_with (first
         | (go_at_call 53; refine (PE1.out Bt g _ TZ.out).mono ?_; rintro e w11 ⟨rfl, b11⟩
            have B11 : Hid _ := b11
            clear b11))
        have GK : Hid (∀ k, k < wr.heap.size → k ≠ N → some k ≠ v.ownBlock → w11.heap[k]? = wr.heap[k]?) := fun k hk h1 h2 => by
         have hV : k < V.heap.size := Nat.lt_of_lt_of_le hk BV.out.size
         have hZs : k < Z.heap.size := by rw [FZ.out.2.2.2]; exact Nat.lt_of_lt_of_le (Nat.lt_of_lt_of_le hV B9.out.size) F10.out.2.2.2
         rw [B11.out.block k hZs, KZ.out k h1, V9.out k hV h2]; exact BV.out.block k hk
        have ZS : Hid (∀ k l, w9.heap[k]? = some l → some k ≠ v.ownBlock → k ≠ N → w11.heap[k]? = some l) := fun k l hk h2 h1 => by
         have hl : k < w9.heap.size := (Array.getElem?_eq_some_iff.1 hk).1
         have hZs : k < Z.heap.size := by rw [FZ.out.2.2.2]; exact Nat.lt_of_lt_of_le hl F10.out.2.2.2
         rw [B11.out.block k hZs, KZ.out k h1, G10.out k hl h2]; exact hk
        have NO : Hid (∀ k, wr.heap.size ≤ k → some k ≠ v.ownBlock ∧ k ≠ N) := fun k hk => ⟨fun q => by have h1 := OWR.out _ q.symm; omega, by have h1 := SZB.out.2; omega⟩
        have Z9 : Hid (w9.heap[g]? = some (.cells (u32s (List.replicate qn 0)) 29 (0, 0))) := (B9.out.block _ (lt_of_heap GV.out)).trans GV.out
        have R1 : Hid (NewR c X Bc N (j + 1) (.slice (some ⟨B, 0, none⟩) (j + 1) cap) (fun i => if i = j then g else gs i) (fun i => if i = j then h else ga i) w11) := by
         have lgv := lt_of_heap GV.out
         have lhv := LH.out
         refine new_step HR.out g h B cap LG.out (by omega) GK.out ((B11.out.block N (lt_of_heap NZ.out)).trans NZ.out) ?_ ?_ ?_ ?_
         · have o1 : Z.ownsRow (N + 1) 91 7 (.slice (some ⟨B, 0, none⟩) (j + 1) cap) (j + 1) (BNS c gs ga j ++ (BN pn qn fn g c.bend h).toList) := by
            refine ⟨OB.out.1, ?_⟩
            rcases OB.out.2 with ⟨e, _⟩ | ⟨g', cap', cur, e, h1, h2, h3⟩
            · simp at e
            · refine Or.inr ⟨g', cap', cur, e, h1, ?_, h3⟩
              rw [KZ.out g' (by omega)]; exact h2
           have o2 := owns_below o1 B11.out
           rw [HPN.out, HQN.out, HFN.out] at o2; exact o2
         · rw [← HQN.out]; exact ZS.out g _ Z9.out (NO.out g LG.out).1 (NO.out g LG.out).2
         · rw [← HQN.out]; have hh : wr.heap.size ≤ h := by have := LG.out; omega
           exact ZS.out h _ ZH9.out (NO.out h hh).1 (NO.out h hh).2
         · rcases HAT.out with q | q
           · exact Or.inl q
           · exact Or.inr (by have := S89.out; omega)
        have B12 : Hid (Below w.heap.size w w11) := by
         refine ⟨?_, ?_, ?_, ?_, fun k hk => ?_⟩
         · rw [B11.out.os, FZ.out.1, F10.out.1, B9.out.os, BV.out.os]; exact BW.out.os
         · rw [B11.out.tape, FZ.out.2.1, F10.out.2.1, B9.out.tape, BV.out.tape]; exact BW.out.tape
         · rw [B11.out.output, FZ.out.2.2.1, F10.out.2.2.1, B9.out.output, BV.out.output]; exact BW.out.output
         · have h1 := B11.out.size; have h2 := FZ.out.2.2.2; have h3 := F10.out.2.2.2; have h4 := B9.out.size; have h5 := BV.out.size; have h6 := BW.out.size; omega
         · have hN := NW.out
           refine (GK.out k (Nat.lt_of_lt_of_le hk BW.out.size) (by omega) (fun q => ?_)).trans (BW.out.block k hk)
           have := OWR.out _ q.symm; omega
        go_roundw
        case rel => exact ⟨j + 1, _, _, _, by omega, rfl, by go_num, R1.out, B12.out⟩
        case measure => simp [intOf]; omega
      refine AllReadyH.cons (o := ⟨some 35, .buildSlice 82 1 #[(0, .tmp 34)], 82, "net.go:18", #[⟨8, .data⟩], none⟩) rfl (fun K hK => ?_) AllReadyH.nil
      refine Tryz.step_row82 rfl _ rfl _ _ _ _ _ _ rfl ?_
      obtain ⟨w9, hw9⟩ : ∃ x, x = w8.alloc (.cells (BN pn qn fn g c.bend h) 91) := ⟨_, rfl⟩
      have a9 : Below w8.heap.size w8 w9 := by rw [hw9]; exact (Below.refl _ _).alloc (Nat.le_refl _) _
      have B9 : Hid (Below V.heap.size V w9) := B8.out.trans (a9.mono B8.out.size)
      have OA : Hid (w9.ownsRow (N + 1) 91 7 v j (BNS c gs ga j)) := owns_below OV.out B9.out
      have NW9 : Hid (∀ i u, (BN pn qn fn g c.bend h).toList[i]? = some u → w9.cell? ((⟨w8.heap.size, 0, none⟩ : Addr).add i) = some u) := by rw [hw9]; exact new_cells w8 _ rfl (BN pn qn fn g c.bend h).toList 91
      have ZH9 : Hid (w9.heap[h]? = some (.cells (u32s (List.replicate qn 0)) 29 (0, 0))) := (a9.block _ (lt_of_heap ZH8.out)).trans ZH8.out
      have S89 : Hid (h < w9.heap.size) := lt_of_heap ZH9.out
      have n9 : w9.cell? ⟨N, 0, none⟩ = some v := (B9.out.cell (p := ⟨N, 0, none⟩) (lt_of_heap NV.out)).trans n7
      rw [← hw9]
      clear hw9 a9 hS
      refine hK.out _ _ (KS7.out _ (B9.out.block _ (lt_of_heap TV.out)) (B9.out.block _ (lt_of_heap CV.out))) (fun hS => ?_)
      try go_frame
      clear hK K
      refine wpAnyH_ready (rs := [4]) (by kernel_rfl) (by simp) ?_
      refine AllReadyH.cons (o := ⟨some 30, .load 82 (.tmp 29), 82, "net.go:18", #[⟨3, .data⟩], none⟩) rfl (fun K hK => ?_) AllReadyH.nil
      go_simp
      refine hK.out _ _ hS (fun hS => ?_)
      try go_frame
      clear hK K
      refine wpAnyH_ready (rs := [10]) (by kernel_rfl) (by simp) ?_
      refine AllReadyH.cons (o := ⟨some 36, .call { callee := .builtin .append, args := #[.tmp 30, .tmp 35], argTypes := #[82, 82] }, 82, "net.go:18", #[⟨4, .data⟩, ⟨9, .data⟩, ⟨8, .chain⟩], none⟩) rfl (fun K hK => ?_) AllReadyH.nil
      refine step_append_lies _ rfl _ _ 82 rfl (N + 1) 91 j0 _ 7 104 Tryz.under82 INF.out.1 INF.out.2.1 INF.out.2.2.1 INF.out.2.2.2 rfl (by decide) _ _ _ rfl OA.out ⟨w8.heap.size, 0, none⟩ 1 1 (BN pn qn fn g c.bend h).toList rfl rfl NW9.out (BN_cells _ _ _ _ _ _) (by decide) (by unfold maxLen; have := HJ.out; omega) (by have := HJ.out; omega) (by have h1 := SZB.out.2; have h2 := BV.out.size; have h3 := B9.out.size; omega) _ rfl ?_
      intro B cap w10 hown hgrow hat hlt2
      have OB : Hid _ := hown
      have HAT : Hid _ := hat
      have G10 : Hid (∀ k, k < w9.heap.size → some k ≠ v.ownBlock → w10.heap[k]? = w9.heap[k]?) := hgrow.block
      have F10 : Hid (w10.os = w9.os ∧ w10.tape = w9.tape ∧ w10.output = w9.output ∧ w9.heap.size ≤ w10.heap.size) := ⟨hgrow.os, hgrow.tape, hgrow.output, hgrow.size⟩
      have V9 : Hid (∀ k, k < V.heap.size → some k ≠ v.ownBlock → w10.heap[k]? = V.heap[k]?) := fun k hk ho => (G10.out k (Nat.lt_of_lt_of_le hk B9.out.size) ho).trans (B9.out.block k hk)
      have nt : some Bt ≠ v.ownBlock := fun q => by have h1 := OWR.out _ q.symm; have h2 := LB.out; omega
      have nc : some Bc ≠ v.ownBlock := fun q => by have h1 := OWR.out _ q.symm; have h2 := SZB.out.1; omega
      have nn : some N ≠ v.ownBlock := fun q => by have h1 := OWR.out _ q.symm; omega
      have N10 : Hid (w10.heap[N]? = some (.cells (zn v) 88 (0, 0))) := (V9.out N (lt_of_heap NV.out) nn).trans NV.out
      have E1 : Hid (w10.heap[Bt]? = V.heap[Bt]?) := V9.out Bt (lt_of_heap TV.out) nt
      have E2 : Hid (w10.heap[Bc]? = V.heap[Bc]?) := V9.out Bc (lt_of_heap CV.out) nc
      have n10 : w10.cell? ⟨N, 0, none⟩ = some v := cell_of_block N10.out 0
      have z10 : w10.frozen? ⟨N, 0, none⟩ = false := unfrozen_of_block N10.out _
      clear hown hgrow hat hlt2 nt nc nn hS n7 n8 n9
      refine hK.out _ _ (KS7.out _ E1.out E2.out) (fun hS => ?_)
      try go_frame
      clear hK K
      refine wpAnyH_take (i := 11) (oi := ⟨some 37, .nilCheck (.tmp 26), 0, "net.go:18", #[⟨0, .data⟩, ⟨0, .phase⟩, ⟨1, .phase⟩, ⟨2, .phase⟩, ⟨3, .phase⟩, ⟨4, .phase⟩, ⟨5, .phase⟩, ⟨6, .phase⟩, ⟨7, .phase⟩, ⟨8, .phase⟩, ⟨9, .phase⟩, ⟨10, .phase⟩], none⟩) (v := ?_) rfl (by kernel_rfl) (by kernel_rfl) (by kernel_rfl) (fun _ _ _ h => h) (Or.inl ⟨by kernel_rfl, ?_⟩) hS ?_
      rotate_left
      · intro w hSw; (try dsimp only at hSw); go_simp; (try with_reducible rfl)
      try go_frame
      refine wpAnyH_take (i := 12) (oi := ⟨some 38, .fieldAddr 88 (.tmp 37) 0, 0, "net.go:18", #[⟨11, .data⟩, ⟨0, .phase⟩, ⟨1, .phase⟩, ⟨2, .phase⟩, ⟨3, .phase⟩, ⟨4, .phase⟩, ⟨5, .phase⟩, ⟨6, .phase⟩, ⟨7, .phase⟩, ⟨8, .phase⟩, ⟨9, .phase⟩, ⟨10, .phase⟩], none⟩) (v := ?_) rfl (by kernel_rfl) (by kernel_rfl) (by kernel_rfl) (fun _ _ _ h => h) (Or.inl ⟨by kernel_rfl, ?_⟩) hS ?_
      rotate_left
      · intro w hSw; (try dsimp only at hSw); go_simp; (try with_reducible rfl)
      try go_frame
      refine wpAnyH_ready (rs := [13]) (by kernel_rfl) (by simp) ?_
      refine AllReadyH.cons (o := ⟨none, .store 82 (.tmp 38) (.tmp 36), 0, "net.go:18", #[⟨12, .data⟩, ⟨10, .data⟩, ⟨10, .chain⟩, ⟨0, .phase⟩, ⟨1, .phase⟩, ⟨2, .phase⟩, ⟨3, .phase⟩, ⟨4, .phase⟩, ⟨5, .phase⟩, ⟨6, .phase⟩, ⟨7, .phase⟩, ⟨8, .phase⟩, ⟨9, .phase⟩, ⟨10, .phase⟩], none⟩) rfl (fun K hK => ?_) AllReadyH.nil
      go_simp
      refine hK.out _ _ (KS7.out _ ((heap_set_ne w10 N 0 Bt _ (by have h1 := SZB.out.2; have h2 := LB.out; omega)).trans E1.out) ((heap_set_ne w10 N 0 Bc _ (by have h1 := SZB.out.1; omega)).trans E2.out)) (fun hS => ?_)
      try go_frame
      clear hK K
      refine wpAnyH_done (by kernel_rfl) ?_ _
      clear hS s7 n10 z10
      obtain ⟨Z, hZ⟩ : ∃ Z, Z = w10.setCell ⟨N, 0, none⟩ (.slice (some ⟨B, 0, none⟩) (j + 1) cap) := ⟨_, rfl⟩
      have TZ : Hid (Z.heap[Bt]? = some (.cells (LY pn qn fn g) 84 (0, 0))) := by show _ = _; rw [hZ, heap_set_ne w10 N 0 Bt _ (by have h1 := SZB.out.2; have h2 := LB.out; omega), E1.out]; exact TV.out
      have NZ : Hid (Z.heap[N]? = some (.cells (zn (.slice (some ⟨B, 0, none⟩) (j + 1) cap)) 88 (0, 0))) := by show _ = _; rw [hZ, heap_set w10 N 0 _ _ 88 (0, 0) N10.out]; rfl
      have KZ : Hid (∀ k, k ≠ N → Z.heap[k]? = w10.heap[k]?) := fun k hk => by rw [hZ]; exact heap_set_ne w10 N 0 k _ hk
      have FZ : Hid (Z.os = w10.os ∧ Z.tape = w10.tape ∧ Z.output = w10.output ∧ Z.heap.size = w10.heap.size) := by rw [hZ]; exact ⟨rfl, rfl, rfl, by simp [World.setCell]⟩
      rw [← hZ]
      clear hZ
      go_wp2_with (first
       | (go_at_call 53; refine (PE1.out Bt g _ TZ.out).mono ?_; rintro e w11 ⟨rfl, b11⟩
          have B11 : Hid _ := b11
          clear b11))
      have GK : Hid (∀ k, k < wr.heap.size → k ≠ N → some k ≠ v.ownBlock → w11.heap[k]? = wr.heap[k]?) := fun k hk h1 h2 => by
       have hV : k < V.heap.size := Nat.lt_of_lt_of_le hk BV.out.size
       have hZs : k < Z.heap.size := by rw [FZ.out.2.2.2]; exact Nat.lt_of_lt_of_le (Nat.lt_of_lt_of_le hV B9.out.size) F10.out.2.2.2
       rw [B11.out.block k hZs, KZ.out k h1, V9.out k hV h2]; exact BV.out.block k hk
      have ZS : Hid (∀ k l, w9.heap[k]? = some l → some k ≠ v.ownBlock → k ≠ N → w11.heap[k]? = some l) := fun k l hk h2 h1 => by
       have hl : k < w9.heap.size := (Array.getElem?_eq_some_iff.1 hk).1
       have hZs : k < Z.heap.size := by rw [FZ.out.2.2.2]; exact Nat.lt_of_lt_of_le hl F10.out.2.2.2
       rw [B11.out.block k hZs, KZ.out k h1, G10.out k hl h2]; exact hk
      have NO : Hid (∀ k, wr.heap.size ≤ k → some k ≠ v.ownBlock ∧ k ≠ N) := fun k hk => ⟨fun q => by have h1 := OWR.out _ q.symm; omega, by have h1 := SZB.out.2; omega⟩
      have Z9 : Hid (w9.heap[g]? = some (.cells (u32s (List.replicate qn 0)) 29 (0, 0))) := (B9.out.block _ (lt_of_heap GV.out)).trans GV.out
      have R1 : Hid (NewR c X Bc N (j + 1) (.slice (some ⟨B, 0, none⟩) (j + 1) cap) (fun i => if i = j then g else gs i) (fun i => if i = j then h else ga i) w11) := by
       have lgv := lt_of_heap GV.out
       have lhv := LH.out
       refine new_step HR.out g h B cap LG.out (by omega) GK.out ((B11.out.block N (lt_of_heap NZ.out)).trans NZ.out) ?_ ?_ ?_ ?_
       · have o1 : Z.ownsRow (N + 1) 91 7 (.slice (some ⟨B, 0, none⟩) (j + 1) cap) (j + 1) (BNS c gs ga j ++ (BN pn qn fn g c.bend h).toList) := by
          refine ⟨OB.out.1, ?_⟩
          rcases OB.out.2 with ⟨e, _⟩ | ⟨g', cap', cur, e, h1, h2, h3⟩
          · simp at e
          · refine Or.inr ⟨g', cap', cur, e, h1, ?_, h3⟩
            rw [KZ.out g' (by omega)]; exact h2
         have o2 := owns_below o1 B11.out
         rw [HPN.out, HQN.out, HFN.out] at o2; exact o2
       · rw [← HQN.out]; exact ZS.out g _ Z9.out (NO.out g LG.out).1 (NO.out g LG.out).2
       · rw [← HQN.out]; have hh : wr.heap.size ≤ h := by have := LG.out; omega
         exact ZS.out h _ ZH9.out (NO.out h hh).1 (NO.out h hh).2
       · rcases HAT.out with q | q
         · exact Or.inl q
         · exact Or.inr (by have := S89.out; omega)
      have B12 : Hid (Below w.heap.size w w11) := by
       refine ⟨?_, ?_, ?_, ?_, fun k hk => ?_⟩
       · rw [B11.out.os, FZ.out.1, F10.out.1, B9.out.os, BV.out.os]; exact BW.out.os
       · rw [B11.out.tape, FZ.out.2.1, F10.out.2.1, B9.out.tape, BV.out.tape]; exact BW.out.tape
       · rw [B11.out.output, FZ.out.2.2.1, F10.out.2.2.1, B9.out.output, BV.out.output]; exact BW.out.output
       · have h1 := B11.out.size; have h2 := FZ.out.2.2.2; have h3 := F10.out.2.2.2; have h4 := B9.out.size; have h5 := BV.out.size; have h6 := BW.out.size; omega
       · have hN := NW.out
         refine (GK.out k (Nat.lt_of_lt_of_le hk BW.out.size) (by omega) (fun q => ?_)).trans (BW.out.block k hk)
         have := OWR.out _ q.symm; omega
      go_roundw
      case rel => exact ⟨j + 1, _, _, _, by omega, rfl, by go_num, R1.out, B12.out⟩
      case measure => simp [intOf]; omega
    refine AllReadyH.cons (o := ⟨some 6, .alloc 84, 0, "net.go:17", #[], none⟩) rfl (fun K hK => ?_) AllReadyH.nil
    refine Tryz.step_alloc84 rfl rfl (fun Bt wA hA lA bA => ?_)
    have B6 : Hid (Below wr.heap.size wr wA) := ((Below.refl _ _).drew).trans bA
    have LB : Hid (wr.heap.size ≤ Bt) := lA
    have TA : Hid _ := hA
    clear hA lA bA hS
    refine hK.out _ _ (KS6.out _ B6.out) (fun hS => ?_)
    try go_frame
    clear hK K
    refine wpAnyH_ready (rs := [10]) (by kernel_rfl) (by simp) ?_
    refine AllReadyH.cons (o := ⟨some 25, .call { callee := .value (.func 51), args := #[.tmp 19, .tmp 23, .tmp 24], argTypes := #[3, 3, 3] }, 84, "net.go:17", #[⟨4, .data⟩, ⟨8, .data⟩, ⟨9, .data⟩], none⟩) rfl (fun K hK => ?_) AllReadyH.nil
    go_simp
    refine (NL1.out _).mono ?_
    rintro e w6 ⟨g, rfl, lg, zg, b6⟩
    have BU : Hid (Below wr.heap.size wr w6) := B6.out.trans (b6.mono B6.out.size)
    have LG : Hid (wr.heap.size ≤ g) := Nat.le_trans B6.out.size lg
    have GU : Hid _ := zg
    have TU : Hid (w6.heap[Bt]? = some (.cells zl 84 (0, 0))) := (b6.block _ (lt_of_heap TA.out)).trans TA.out
    have NEt : Hid (g ≠ Bt) := by have := lt_of_heap TA.out; show ¬ _; omega
    clear lg zg b6 hS
    go_wp2_with fail
    refine hK.out _ _ (KS6.out _ BU.out) (fun hS => ?_)
    try go_frame
    clear hK K
    refine wpAnyH_ready (rs := [12]) (by kernel_rfl) (by simp) ?_
    refine AllReadyH.cons (o := ⟨none, .store 84 (.tmp 6) (.tmp 25), 0, "net.go:17", #[⟨11, .data⟩, ⟨10, .data⟩, ⟨10, .chain⟩, ⟨0, .phase⟩, ⟨1, .phase⟩, ⟨2, .phase⟩, ⟨3, .phase⟩, ⟨4, .phase⟩, ⟨5, .phase⟩, ⟨6, .phase⟩, ⟨7, .phase⟩, ⟨8, .phase⟩, ⟨9, .phase⟩, ⟨10, .phase⟩, ⟨11, .phase⟩], none⟩) rfl (fun K hK => ?_) AllReadyH.nil
    rw [if_pos (by rfl)]
    refine wp_store_row 84 _ _ rfl Bt (LY pn qn fn g) rfl rfl 84 zl TU.out (LY_info _ _ _ _) rfl (LY_one _ _ _ _) ?_
    have BV : Hid (Below wr.heap.size wr (w6.setRow Bt (LY pn qn fn g))) := Below.setRow BU.out LB.out _
    refine hK.out _ _ (KS6.out _ BV.out) (fun hS => ?_)
    try go_frame
    clear hK K
    refine wpAnyH_done (by kernel_rfl) ?_ _
    clear hS s6
    obtain ⟨V, hV⟩ : ∃ V, V = w6.setRow Bt (LY pn qn fn g) := ⟨_, rfl⟩
    have TV : Hid (V.heap[Bt]? = some (.cells (LY pn qn fn g) 84 (0, 0))) := by show _ = _; rw [hV]; exact setRow_heap _ _ _ _ _ _ TU.out
    have GV : Hid (V.heap[g]? = some (.cells (u32s (List.replicate qn 0)) 29 (0, 0))) := by show _ = _; rw [hV, setRow_other _ _ _ _ NEt.out]; exact GU.out
    rw [← hV] at BV ⊢
    clear hV TU GU BU B6 TA
    have NV : Hid (V.heap[N]? = some (.cells (zn v) 88 (0, 0))) := (BV.out.block _ SZB.out.2).trans HR.out.nb
    have CV : Hid (V.heap[Bc]? = some (.cells X 31 (0, 0))) := (BV.out.block _ (lt_of_heap HR.out.bc)).trans HR.out.bc
    have OV : Hid (V.ownsRow (N + 1) 91 7 v j (BNS c gs ga j)) := owns_below HR.out.ow BV.out
    have KS7 : Hid (∀ V' : World, V'.heap[Bt]? = V.heap[Bt]? → V'.heap[Bc]? = V.heap[Bc]? → V'.rangeAt Bt 0 (LY pn qn fn g).toList ∧ V'.cell? ⟨Bc, 5, none⟩ = some (.int .i64 c.bend)) := fun V' h1 h2 => ⟨rng (h1.trans TV.out), (cell_of_block (h2.trans CV.out) 5).trans X5.out⟩
    have s7 := KS7.out V rfl rfl
    have n7 : V.cell? ⟨N, 0, none⟩ = some v := cell_of_block NV.out 0
    have NB2 := NB1.out g
    have NB3 : Hid _ := NB2
    clear NB2
    have HI84 : Hid _ := LY_infoL pn qn fn g
    go_upto_region 7 with fail
    refine wp_region_held_drew (S := fun w' => w'.rangeAt Bt 0 (LY pn qn fn g).toList ∧ w'.cell? ⟨Bc, 5, none⟩ = some (.int .i64 c.bend)) (by kernel_rfl) s7 (fun hS => ?_)
    refine wpAnyH_take (i := 0) (oi := ⟨some 26, .move (.tmp 3), 57, "net.go:18", #[], none⟩) (v := ?_) rfl (by kernel_rfl) (by kernel_rfl) (by kernel_rfl) (fun _ _ _ h => h) (Or.inl ⟨by kernel_rfl, ?_⟩) hS ?_
    rotate_left
    · intro w hSw; (try dsimp only at hSw); go_simp; (try with_reducible rfl)
    try go_frame
    refine wpAnyH_take (i := 1) (oi := ⟨some 27, .move (.tmp 3), 57, "net.go:18", #[], none⟩) (v := ?_) rfl (by kernel_rfl) (by kernel_rfl) (by kernel_rfl) (fun _ _ _ h => h) (Or.inl ⟨by kernel_rfl, ?_⟩) hS ?_
    rotate_left
    · intro w hSw; (try dsimp only at hSw); go_simp; (try with_reducible rfl)
    try go_frame
    refine wpAnyH_take (i := 2) (oi := ⟨some 28, .nilCheck (.tmp 27), 0, "net.go:18", #[⟨1, .data⟩], none⟩) (v := ?_) rfl (by kernel_rfl) (by kernel_rfl) (by kernel_rfl) (fun _ _ _ h => h) (Or.inl ⟨by kernel_rfl, ?_⟩) hS ?_
    rotate_left
    · intro w hSw; (try dsimp only at hSw); go_simp; (try with_reducible rfl)
    try go_frame
    refine wpAnyH_take (i := 3) (oi := ⟨some 29, .fieldAddr 88 (.tmp 28) 0, 0, "net.go:18", #[⟨2, .data⟩], none⟩) (v := ?_) rfl (by kernel_rfl) (by kernel_rfl) (by kernel_rfl) (fun _ _ _ h => h) (Or.inl ⟨by kernel_rfl, ?_⟩) hS ?_
    rotate_left
    · intro w hSw; (try dsimp only at hSw); go_simp; (try with_reducible rfl)
    try go_frame
    refine wpAnyH_take (i := 5) (oi := ⟨some 31, .load 84 (.tmp 6), 84, "net.go:18", #[], none⟩) (v := .agg (LY pn qn fn g).toList.toArray) rfl (by kernel_rfl) (by kernel_rfl) (by kernel_rfl) (fun _ _ _ h => h) (yieldsIf_load_mid (by rfl) 84 _ rfl Bt 0 rfl (LY pn qn fn g).toList _ (fun w h => h.1) Tryz.underlying84 rfl HI84.out) hS ?_
    rw [Array.toArray_toList]
    try go_frame
    refine wpAnyH_take (i := 6) (oi := ⟨some 32, .fieldAddr 31 (.tmp 1) 2, 0, "net.go:18", #[], none⟩) (v := ?_) rfl (by kernel_rfl) (by kernel_rfl) (by kernel_rfl) (fun _ _ _ h => h) (Or.inl ⟨by kernel_rfl, ?_⟩) hS ?_
    rotate_left
    · intro w hSw; (try dsimp only at hSw); go_simp; (try with_reducible rfl)
    try go_frame
    refine wpAnyH_take (i := 7) (oi := ⟨some 33, .load 3 (.tmp 32), 3, "net.go:18", #[⟨6, .data⟩], none⟩) (v := ?_) rfl (by kernel_rfl) (by kernel_rfl) (by kernel_rfl) (fun _ _ _ h => h) (Or.inl ⟨by kernel_rfl, ?_⟩) hS ?_
    rotate_left
    · intro w hSw; (try dsimp only at hSw); go_simp; (try with_reducible rfl)
    try go_frame
    refine wpAnyH_ready (rs := [4, 8]) (by kernel_rfl) (by simp) ?_
    refine AllReadyH.cons (o := ⟨some 30, .load 82 (.tmp 29), 82, "net.go:18", #[⟨3, .data⟩], none⟩) rfl (fun K hK => ?_) ?_
    · skip
      go_simp
      refine hK.out _ _ hS (fun hS => ?_)
      try go_frame
      clear hK K
      refine wpAnyH_ready (rs := [8]) (by kernel_rfl) (by simp) ?_
      refine AllReadyH.cons (o := ⟨some 34, .call { callee := .value (.func 52), args := #[.tmp 31, .tmp 33], argTypes := #[84, 3] }, 91, "net.go:18", #[⟨5, .data⟩, ⟨7, .data⟩], none⟩) rfl (fun K hK => ?_) AllReadyH.nil
      go_simp
      refine (NB3.out _).mono ?_
      rintro e w8 ⟨h, rfl, lh, zh, b8⟩
      have B8 : Hid (Below V.heap.size V w8) := ((Below.refl _ _).drew).trans b8
      have LH : Hid (V.heap.size ≤ h) := lh
      have ZH8 : Hid _ := zh
      have n8 : w8.cell? ⟨N, 0, none⟩ = some v := (B8.out.cell (p := ⟨N, 0, none⟩) (lt_of_heap NV.out)).trans n7
      clear lh zh b8 hS
      go_wp2_with fail
      refine hK.out _ _ (KS7.out _ (B8.out.block _ (lt_of_heap TV.out)) (B8.out.block _ (lt_of_heap CV.out))) (fun hS => ?_)
      try go_frame
      clear hK K
      refine wpAnyH_ready (rs := [9]) (by kernel_rfl) (by simp) ?_
      refine AllReadyH.cons (o := ⟨some 35, .buildSlice 82 1 #[(0, .tmp 34)], 82, "net.go:18", #[⟨8, .data⟩], none⟩) rfl (fun K hK => ?_) AllReadyH.nil
      refine Tryz.step_row82 rfl _ rfl _ _ _ _ _ _ rfl ?_
      obtain ⟨w9, hw9⟩ : ∃ x, x = w8.alloc (.cells (BN pn qn fn g c.bend h) 91) := ⟨_, rfl⟩
      have a9 : Below w8.heap.size w8 w9 := by rw [hw9]; exact (Below.refl _ _).alloc (Nat.le_refl _) _
      have B9 : Hid (Below V.heap.size V w9) := B8.out.trans (a9.mono B8.out.size)
      have OA : Hid (w9.ownsRow (N + 1) 91 7 v j (BNS c gs ga j)) := owns_below OV.out B9.out
      have NW9 : Hid (∀ i u, (BN pn qn fn g c.bend h).toList[i]? = some u → w9.cell? ((⟨w8.heap.size, 0, none⟩ : Addr).add i) = some u) := by rw [hw9]; exact new_cells w8 _ rfl (BN pn qn fn g c.bend h).toList 91
      have ZH9 : Hid (w9.heap[h]? = some (.cells (u32s (List.replicate qn 0)) 29 (0, 0))) := (a9.block _ (lt_of_heap ZH8.out)).trans ZH8.out
      have S89 : Hid (h < w9.heap.size) := lt_of_heap ZH9.out
      have n9 : w9.cell? ⟨N, 0, none⟩ = some v := (B9.out.cell (p := ⟨N, 0, none⟩) (lt_of_heap NV.out)).trans n7
      rw [← hw9]
      clear hw9 a9 hS
      refine hK.out _ _ (KS7.out _ (B9.out.block _ (lt_of_heap TV.out)) (B9.out.block _ (lt_of_heap CV.out))) (fun hS => ?_)
      try go_frame
      clear hK K
      refine wpAnyH_ready (rs := [10]) (by kernel_rfl) (by simp) ?_
      refine AllReadyH.cons (o := ⟨some 36, .call { callee := .builtin .append, args := #[.tmp 30, .tmp 35], argTypes := #[82, 82] }, 82, "net.go:18", #[⟨4, .data⟩, ⟨9, .data⟩, ⟨8, .chain⟩], none⟩) rfl (fun K hK => ?_) AllReadyH.nil
      refine step_append_lies _ rfl _ _ 82 rfl (N + 1) 91 j0 _ 7 104 Tryz.under82 INF.out.1 INF.out.2.1 INF.out.2.2.1 INF.out.2.2.2 rfl (by decide) _ _ _ rfl OA.out ⟨w8.heap.size, 0, none⟩ 1 1 (BN pn qn fn g c.bend h).toList rfl rfl NW9.out (BN_cells _ _ _ _ _ _) (by decide) (by unfold maxLen; have := HJ.out; omega) (by have := HJ.out; omega) (by have h1 := SZB.out.2; have h2 := BV.out.size; have h3 := B9.out.size; omega) _ rfl ?_
      intro B cap w10 hown hgrow hat hlt2
      have OB : Hid _ := hown
      have HAT : Hid _ := hat
      have G10 : Hid (∀ k, k < w9.heap.size → some k ≠ v.ownBlock → w10.heap[k]? = w9.heap[k]?) := hgrow.block
      have F10 : Hid (w10.os = w9.os ∧ w10.tape = w9.tape ∧ w10.output = w9.output ∧ w9.heap.size ≤ w10.heap.size) := ⟨hgrow.os, hgrow.tape, hgrow.output, hgrow.size⟩
      have V9 : Hid (∀ k, k < V.heap.size → some k ≠ v.ownBlock → w10.heap[k]? = V.heap[k]?) := fun k hk ho => (G10.out k (Nat.lt_of_lt_of_le hk B9.out.size) ho).trans (B9.out.block k hk)
      have nt : some Bt ≠ v.ownBlock := fun q => by have h1 := OWR.out _ q.symm; have h2 := LB.out; omega
      have nc : some Bc ≠ v.ownBlock := fun q => by have h1 := OWR.out _ q.symm; have h2 := SZB.out.1; omega
      have nn : some N ≠ v.ownBlock := fun q => by have h1 := OWR.out _ q.symm; omega
      have N10 : Hid (w10.heap[N]? = some (.cells (zn v) 88 (0, 0))) := (V9.out N (lt_of_heap NV.out) nn).trans NV.out
      have E1 : Hid (w10.heap[Bt]? = V.heap[Bt]?) := V9.out Bt (lt_of_heap TV.out) nt
      have E2 : Hid (w10.heap[Bc]? = V.heap[Bc]?) := V9.out Bc (lt_of_heap CV.out) nc
      have n10 : w10.cell? ⟨N, 0, none⟩ = some v := cell_of_block N10.out 0
      have z10 : w10.frozen? ⟨N, 0, none⟩ = false := unfrozen_of_block N10.out _
      clear hown hgrow hat hlt2 nt nc nn hS n7 n8 n9
      refine hK.out _ _ (KS7.out _ E1.out E2.out) (fun hS => ?_)
      try go_frame
      clear hK K
      refine wpAnyH_take (i := 11) (oi := ⟨some 37, .nilCheck (.tmp 26), 0, "net.go:18", #[⟨0, .data⟩, ⟨0, .phase⟩, ⟨1, .phase⟩, ⟨2, .phase⟩, ⟨3, .phase⟩, ⟨4, .phase⟩, ⟨5, .phase⟩, ⟨6, .phase⟩, ⟨7, .phase⟩, ⟨8, .phase⟩, ⟨9, .phase⟩, ⟨10, .phase⟩], none⟩) (v := ?_) rfl (by kernel_rfl) (by kernel_rfl) (by kernel_rfl) (fun _ _ _ h => h) (Or.inl ⟨by kernel_rfl, ?_⟩) hS ?_
      rotate_left
      · intro w hSw; (try dsimp only at hSw); go_simp; (try with_reducible rfl)
      try go_frame
      refine wpAnyH_take (i := 12) (oi := ⟨some 38, .fieldAddr 88 (.tmp 37) 0, 0, "net.go:18", #[⟨11, .data⟩, ⟨0, .phase⟩, ⟨1, .phase⟩, ⟨2, .phase⟩, ⟨3, .phase⟩, ⟨4, .phase⟩, ⟨5, .phase⟩, ⟨6, .phase⟩, ⟨7, .phase⟩, ⟨8, .phase⟩, ⟨9, .phase⟩, ⟨10, .phase⟩], none⟩) (v := ?_) rfl (by kernel_rfl) (by kernel_rfl) (by kernel_rfl) (fun _ _ _ h => h) (Or.inl ⟨by kernel_rfl, ?_⟩) hS ?_
      rotate_left
      · intro w hSw; (try dsimp only at hSw); go_simp; (try with_reducible rfl)
      try go_frame
      refine wpAnyH_ready (rs := [13]) (by kernel_rfl) (by simp) ?_
      refine AllReadyH.cons (o := ⟨none, .store 82 (.tmp 38) (.tmp 36), 0, "net.go:18", #[⟨12, .data⟩, ⟨10, .data⟩, ⟨10, .chain⟩, ⟨0, .phase⟩, ⟨1, .phase⟩, ⟨2, .phase⟩, ⟨3, .phase⟩, ⟨4, .phase⟩, ⟨5, .phase⟩, ⟨6, .phase⟩, ⟨7, .phase⟩, ⟨8, .phase⟩, ⟨9, .phase⟩, ⟨10, .phase⟩], none⟩) rfl (fun K hK => ?_) AllReadyH.nil
      go_simp
      refine hK.out _ _ (KS7.out _ ((heap_set_ne w10 N 0 Bt _ (by have h1 := SZB.out.2; have h2 := LB.out; omega)).trans E1.out) ((heap_set_ne w10 N 0 Bc _ (by have h1 := SZB.out.1; omega)).trans E2.out)) (fun hS => ?_)
      try go_frame
      clear hK K
      refine wpAnyH_done (by kernel_rfl) ?_ _
      clear hS s7 n10 z10
      obtain ⟨Z, hZ⟩ : ∃ Z, Z = w10.setCell ⟨N, 0, none⟩ (.slice (some ⟨B, 0, none⟩) (j + 1) cap) := ⟨_, rfl⟩
      have TZ : Hid (Z.heap[Bt]? = some (.cells (LY pn qn fn g) 84 (0, 0))) := by show _ = _; rw [hZ, heap_set_ne w10 N 0 Bt _ (by have h1 := SZB.out.2; have h2 := LB.out; omega), E1.out]; exact TV.out
      have NZ : Hid (Z.heap[N]? = some (.cells (zn (.slice (some ⟨B, 0, none⟩) (j + 1) cap)) 88 (0, 0))) := by show _ = _; rw [hZ, heap_set w10 N 0 _ _ 88 (0, 0) N10.out]; rfl
      have KZ : Hid (∀ k, k ≠ N → Z.heap[k]? = w10.heap[k]?) := fun k hk => by rw [hZ]; exact heap_set_ne w10 N 0 k _ hk
      have FZ : Hid (Z.os = w10.os ∧ Z.tape = w10.tape ∧ Z.output = w10.output ∧ Z.heap.size = w10.heap.size) := by rw [hZ]; exact ⟨rfl, rfl, rfl, by simp [World.setCell]⟩
      rw [← hZ]
      clear hZ
      go_wp2_with (first
       | (go_at_call 53; refine (PE1.out Bt g _ TZ.out).mono ?_; rintro e w11 ⟨rfl, b11⟩
          have B11 : Hid _ := b11
          clear b11))
      have GK : Hid (∀ k, k < wr.heap.size → k ≠ N → some k ≠ v.ownBlock → w11.heap[k]? = wr.heap[k]?) := fun k hk h1 h2 => by
       have hV : k < V.heap.size := Nat.lt_of_lt_of_le hk BV.out.size
       have hZs : k < Z.heap.size := by rw [FZ.out.2.2.2]; exact Nat.lt_of_lt_of_le (Nat.lt_of_lt_of_le hV B9.out.size) F10.out.2.2.2
       rw [B11.out.block k hZs, KZ.out k h1, V9.out k hV h2]; exact BV.out.block k hk
      have ZS : Hid (∀ k l, w9.heap[k]? = some l → some k ≠ v.ownBlock → k ≠ N → w11.heap[k]? = some l) := fun k l hk h2 h1 => by
       have hl : k < w9.heap.size := (Array.getElem?_eq_some_iff.1 hk).1
       have hZs : k < Z.heap.size := by rw [FZ.out.2.2.2]; exact Nat.lt_of_lt_of_le hl F10.out.2.2.2
       rw [B11.out.block k hZs, KZ.out k h1, G10.out k hl h2]; exact hk
      have NO : Hid (∀ k, wr.heap.size ≤ k → some k ≠ v.ownBlock ∧ k ≠ N) := fun k hk => ⟨fun q => by have h1 := OWR.out _ q.symm; omega, by have h1 := SZB.out.2; omega⟩
      have Z9 : Hid (w9.heap[g]? = some (.cells (u32s (List.replicate qn 0)) 29 (0, 0))) := (B9.out.block _ (lt_of_heap GV.out)).trans GV.out
      have R1 : Hid (NewR c X Bc N (j + 1) (.slice (some ⟨B, 0, none⟩) (j + 1) cap) (fun i => if i = j then g else gs i) (fun i => if i = j then h else ga i) w11) := by
       have lgv := lt_of_heap GV.out
       have lhv := LH.out
       refine new_step HR.out g h B cap LG.out (by omega) GK.out ((B11.out.block N (lt_of_heap NZ.out)).trans NZ.out) ?_ ?_ ?_ ?_
       · have o1 : Z.ownsRow (N + 1) 91 7 (.slice (some ⟨B, 0, none⟩) (j + 1) cap) (j + 1) (BNS c gs ga j ++ (BN pn qn fn g c.bend h).toList) := by
          refine ⟨OB.out.1, ?_⟩
          rcases OB.out.2 with ⟨e, _⟩ | ⟨g', cap', cur, e, h1, h2, h3⟩
          · simp at e
          · refine Or.inr ⟨g', cap', cur, e, h1, ?_, h3⟩
            rw [KZ.out g' (by omega)]; exact h2
         have o2 := owns_below o1 B11.out
         rw [HPN.out, HQN.out, HFN.out] at o2; exact o2
       · rw [← HQN.out]; exact ZS.out g _ Z9.out (NO.out g LG.out).1 (NO.out g LG.out).2
       · rw [← HQN.out]; have hh : wr.heap.size ≤ h := by have := LG.out; omega
         exact ZS.out h _ ZH9.out (NO.out h hh).1 (NO.out h hh).2
       · rcases HAT.out with q | q
         · exact Or.inl q
         · exact Or.inr (by have := S89.out; omega)
      have B12 : Hid (Below w.heap.size w w11) := by
       refine ⟨?_, ?_, ?_, ?_, fun k hk => ?_⟩
       · rw [B11.out.os, FZ.out.1, F10.out.1, B9.out.os, BV.out.os]; exact BW.out.os
       · rw [B11.out.tape, FZ.out.2.1, F10.out.2.1, B9.out.tape, BV.out.tape]; exact BW.out.tape
       · rw [B11.out.output, FZ.out.2.2.1, F10.out.2.2.1, B9.out.output, BV.out.output]; exact BW.out.output
       · have h1 := B11.out.size; have h2 := FZ.out.2.2.2; have h3 := F10.out.2.2.2; have h4 := B9.out.size; have h5 := BV.out.size; have h6 := BW.out.size; omega
       · have hN := NW.out
         refine (GK.out k (Nat.lt_of_lt_of_le hk BW.out.size) (by omega) (fun q => ?_)).trans (BW.out.block k hk)
         have := OWR.out _ q.symm; omega
      go_roundw
      case rel => exact ⟨j + 1, _, _, _, by omega, rfl, by go_num, R1.out, B12.out⟩
      case measure => simp [intOf]; omega
    refine AllReadyH.cons (o := ⟨some 34, .call { callee := .value (.func 52), args := #[.tmp 31, .tmp 33], argTypes := #[84, 3] }, 91, "net.go:18", #[⟨5, .data⟩, ⟨7, .data⟩], none⟩) rfl (fun K hK => ?_) AllReadyH.nil
    go_simp
    refine (NB3.out _).mono ?_
    rintro e w8 ⟨h, rfl, lh, zh, b8⟩
    have B8 : Hid (Below V.heap.size V w8) := ((Below.refl _ _).drew).trans b8
    have LH : Hid (V.heap.size ≤ h) := lh
    have ZH8 : Hid _ := zh
    have n8 : w8.cell? ⟨N, 0, none⟩ = some v := (B8.out.cell (p := ⟨N, 0, none⟩) (lt_of_heap NV.out)).trans n7
    clear lh zh b8 hS
    go_wp2_with fail
    refine hK.out _ _ (KS7.out _ (B8.out.block _ (lt_of_heap TV.out)) (B8.out.block _ (lt_of_heap CV.out))) (fun hS => ?_)
    try go_frame
    clear hK K
    refine wpAnyH_ready (rs := [4, 9]) (by kernel_rfl) (by simp) ?_
    refine AllReadyH.cons (o := ⟨some 30, .load 82 (.tmp 29), 82, "net.go:18", #[⟨3, .data⟩], none⟩) rfl (fun K hK => ?_) ?_
    · skip
      go_simp
      refine hK.out _ _ hS (fun hS => ?_)
      try go_frame
      clear hK K
      refine wpAnyH_ready (rs := [9]) (by kernel_rfl) (by simp) ?_
      refine AllReadyH.cons (o := ⟨some 35, .buildSlice 82 1 #[(0, .tmp 34)], 82, "net.go:18", #[⟨8, .data⟩], none⟩) rfl (fun K hK => ?_) AllReadyH.nil
      refine Tryz.step_row82 rfl _ rfl _ _ _ _ _ _ rfl ?_
      obtain ⟨w9, hw9⟩ : ∃ x, x = w8.alloc (.cells (BN pn qn fn g c.bend h) 91) := ⟨_, rfl⟩
      have a9 : Below w8.heap.size w8 w9 := by rw [hw9]; exact (Below.refl _ _).alloc (Nat.le_refl _) _
      have B9 : Hid (Below V.heap.size V w9) := B8.out.trans (a9.mono B8.out.size)
      have OA : Hid (w9.ownsRow (N + 1) 91 7 v j (BNS c gs ga j)) := owns_below OV.out B9.out
      have NW9 : Hid (∀ i u, (BN pn qn fn g c.bend h).toList[i]? = some u → w9.cell? ((⟨w8.heap.size, 0, none⟩ : Addr).add i) = some u) := by rw [hw9]; exact new_cells w8 _ rfl (BN pn qn fn g c.bend h).toList 91
      have ZH9 : Hid (w9.heap[h]? = some (.cells (u32s (List.replicate qn 0)) 29 (0, 0))) := (a9.block _ (lt_of_heap ZH8.out)).trans ZH8.out
      have S89 : Hid (h < w9.heap.size) := lt_of_heap ZH9.out
      have n9 : w9.cell? ⟨N, 0, none⟩ = some v := (B9.out.cell (p := ⟨N, 0, none⟩) (lt_of_heap NV.out)).trans n7
      rw [← hw9]
      clear hw9 a9 hS
      refine hK.out _ _ (KS7.out _ (B9.out.block _ (lt_of_heap TV.out)) (B9.out.block _ (lt_of_heap CV.out))) (fun hS => ?_)
      try go_frame
      clear hK K
      refine wpAnyH_ready (rs := [10]) (by kernel_rfl) (by simp) ?_
      refine AllReadyH.cons (o := ⟨some 36, .call { callee := .builtin .append, args := #[.tmp 30, .tmp 35], argTypes := #[82, 82] }, 82, "net.go:18", #[⟨4, .data⟩, ⟨9, .data⟩, ⟨8, .chain⟩], none⟩) rfl (fun K hK => ?_) AllReadyH.nil
      refine step_append_lies _ rfl _ _ 82 rfl (N + 1) 91 j0 _ 7 104 Tryz.under82 INF.out.1 INF.out.2.1 INF.out.2.2.1 INF.out.2.2.2 rfl (by decide) _ _ _ rfl OA.out ⟨w8.heap.size, 0, none⟩ 1 1 (BN pn qn fn g c.bend h).toList rfl rfl NW9.out (BN_cells _ _ _ _ _ _) (by decide) (by unfold maxLen; have := HJ.out; omega) (by have := HJ.out; omega) (by have h1 := SZB.out.2; have h2 := BV.out.size; have h3 := B9.out.size; omega) _ rfl ?_
      intro B cap w10 hown hgrow hat hlt2
      have OB : Hid _ := hown
      have HAT : Hid _ := hat
      have G10 : Hid (∀ k, k < w9.heap.size → some k ≠ v.ownBlock → w10.heap[k]? = w9.heap[k]?) := hgrow.block
      have F10 : Hid (w10.os = w9.os ∧ w10.tape = w9.tape ∧ w10.output = w9.output ∧ w9.heap.size ≤ w10.heap.size) := ⟨hgrow.os, hgrow.tape, hgrow.output, hgrow.size⟩
      have V9 : Hid (∀ k, k < V.heap.size → some k ≠ v.ownBlock → w10.heap[k]? = V.heap[k]?) := fun k hk ho => (G10.out k (Nat.lt_of_lt_of_le hk B9.out.size) ho).trans (B9.out.block k hk)
      have nt : some Bt ≠ v.ownBlock := fun q => by have h1 := OWR.out _ q.symm; have h2 := LB.out; omega
      have nc : some Bc ≠ v.ownBlock := fun q => by have h1 := OWR.out _ q.symm; have h2 := SZB.out.1; omega
      have nn : some N ≠ v.ownBlock := fun q => by have h1 := OWR.out _ q.symm; omega
      have N10 : Hid (w10.heap[N]? = some (.cells (zn v) 88 (0, 0))) := (V9.out N (lt_of_heap NV.out) nn).trans NV.out
      have E1 : Hid (w10.heap[Bt]? = V.heap[Bt]?) := V9.out Bt (lt_of_heap TV.out) nt
      have E2 : Hid (w10.heap[Bc]? = V.heap[Bc]?) := V9.out Bc (lt_of_heap CV.out) nc
      have n10 : w10.cell? ⟨N, 0, none⟩ = some v := cell_of_block N10.out 0
      have z10 : w10.frozen? ⟨N, 0, none⟩ = false := unfrozen_of_block N10.out _
      clear hown hgrow hat hlt2 nt nc nn hS n7 n8 n9
      refine hK.out _ _ (KS7.out _ E1.out E2.out) (fun hS => ?_)
      try go_frame
      clear hK K
      refine wpAnyH_take (i := 11) (oi := ⟨some 37, .nilCheck (.tmp 26), 0, "net.go:18", #[⟨0, .data⟩, ⟨0, .phase⟩, ⟨1, .phase⟩, ⟨2, .phase⟩, ⟨3, .phase⟩, ⟨4, .phase⟩, ⟨5, .phase⟩, ⟨6, .phase⟩, ⟨7, .phase⟩, ⟨8, .phase⟩, ⟨9, .phase⟩, ⟨10, .phase⟩], none⟩) (v := ?_) rfl (by kernel_rfl) (by kernel_rfl) (by kernel_rfl) (fun _ _ _ h => h) (Or.inl ⟨by kernel_rfl, ?_⟩) hS ?_
      rotate_left
      · intro w hSw; (try dsimp only at hSw); go_simp; (try with_reducible rfl)
      try go_frame
      refine wpAnyH_take (i := 12) (oi := ⟨some 38, .fieldAddr 88 (.tmp 37) 0, 0, "net.go:18", #[⟨11, .data⟩, ⟨0, .phase⟩, ⟨1, .phase⟩, ⟨2, .phase⟩, ⟨3, .phase⟩, ⟨4, .phase⟩, ⟨5, .phase⟩, ⟨6, .phase⟩, ⟨7, .phase⟩, ⟨8, .phase⟩, ⟨9, .phase⟩, ⟨10, .phase⟩], none⟩) (v := ?_) rfl (by kernel_rfl) (by kernel_rfl) (by kernel_rfl) (fun _ _ _ h => h) (Or.inl ⟨by kernel_rfl, ?_⟩) hS ?_
      rotate_left
      · intro w hSw; (try dsimp only at hSw); go_simp; (try with_reducible rfl)
      try go_frame
      refine wpAnyH_ready (rs := [13]) (by kernel_rfl) (by simp) ?_
      refine AllReadyH.cons (o := ⟨none, .store 82 (.tmp 38) (.tmp 36), 0, "net.go:18", #[⟨12, .data⟩, ⟨10, .data⟩, ⟨10, .chain⟩, ⟨0, .phase⟩, ⟨1, .phase⟩, ⟨2, .phase⟩, ⟨3, .phase⟩, ⟨4, .phase⟩, ⟨5, .phase⟩, ⟨6, .phase⟩, ⟨7, .phase⟩, ⟨8, .phase⟩, ⟨9, .phase⟩, ⟨10, .phase⟩], none⟩) rfl (fun K hK => ?_) AllReadyH.nil
      go_simp
      refine hK.out _ _ (KS7.out _ ((heap_set_ne w10 N 0 Bt _ (by have h1 := SZB.out.2; have h2 := LB.out; omega)).trans E1.out) ((heap_set_ne w10 N 0 Bc _ (by have h1 := SZB.out.1; omega)).trans E2.out)) (fun hS => ?_)
      try go_frame
      clear hK K
      refine wpAnyH_done (by kernel_rfl) ?_ _
      clear hS s7 n10 z10
      obtain ⟨Z, hZ⟩ : ∃ Z, Z = w10.setCell ⟨N, 0, none⟩ (.slice (some ⟨B, 0, none⟩) (j + 1) cap) := ⟨_, rfl⟩
      have TZ : Hid (Z.heap[Bt]? = some (.cells (LY pn qn fn g) 84 (0, 0))) := by show _ = _; rw [hZ, heap_set_ne w10 N 0 Bt _ (by have h1 := SZB.out.2; have h2 := LB.out; omega), E1.out]; exact TV.out
      have NZ : Hid (Z.heap[N]? = some (.cells (zn (.slice (some ⟨B, 0, none⟩) (j + 1) cap)) 88 (0, 0))) := by show _ = _; rw [hZ, heap_set w10 N 0 _ _ 88 (0, 0) N10.out]; rfl
      have KZ : Hid (∀ k, k ≠ N → Z.heap[k]? = w10.heap[k]?) := fun k hk => by rw [hZ]; exact heap_set_ne w10 N 0 k _ hk
      have FZ : Hid (Z.os = w10.os ∧ Z.tape = w10.tape ∧ Z.output = w10.output ∧ Z.heap.size = w10.heap.size) := by rw [hZ]; exact ⟨rfl, rfl, rfl, by simp [World.setCell]⟩
      rw [← hZ]
      clear hZ
      go_wp2_with (first
       | (go_at_call 53; refine (PE1.out Bt g _ TZ.out).mono ?_; rintro e w11 ⟨rfl, b11⟩
          have B11 : Hid _ := b11
          clear b11))
      have GK : Hid (∀ k, k < wr.heap.size → k ≠ N → some k ≠ v.ownBlock → w11.heap[k]? = wr.heap[k]?) := fun k hk h1 h2 => by
       have hV : k < V.heap.size := Nat.lt_of_lt_of_le hk BV.out.size
       have hZs : k < Z.heap.size := by rw [FZ.out.2.2.2]; exact Nat.lt_of_lt_of_le (Nat.lt_of_lt_of_le hV B9.out.size) F10.out.2.2.2
       rw [B11.out.block k hZs, KZ.out k h1, V9.out k hV h2]; exact BV.out.block k hk
      have ZS : Hid (∀ k l, w9.heap[k]? = some l → some k ≠ v.ownBlock → k ≠ N → w11.heap[k]? = some l) := fun k l hk h2 h1 => by
       have hl : k < w9.heap.size := (Array.getElem?_eq_some_iff.1 hk).1
       have hZs : k < Z.heap.size := by rw [FZ.out.2.2.2]; exact Nat.lt_of_lt_of_le hl F10.out.2.2.2
       rw [B11.out.block k hZs, KZ.out k h1, G10.out k hl h2]; exact hk
      have NO : Hid (∀ k, wr.heap.size ≤ k → some k ≠ v.ownBlock ∧ k ≠ N) := fun k hk => ⟨fun q => by have h1 := OWR.out _ q.symm; omega, by have h1 := SZB.out.2; omega⟩
      have Z9 : Hid (w9.heap[g]? = some (.cells (u32s (List.replicate qn 0)) 29 (0, 0))) := (B9.out.block _ (lt_of_heap GV.out)).trans GV.out
      have R1 : Hid (NewR c X Bc N (j + 1) (.slice (some ⟨B, 0, none⟩) (j + 1) cap) (fun i => if i = j then g else gs i) (fun i => if i = j then h else ga i) w11) := by
       have lgv := lt_of_heap GV.out
       have lhv := LH.out
       refine new_step HR.out g h B cap LG.out (by omega) GK.out ((B11.out.block N (lt_of_heap NZ.out)).trans NZ.out) ?_ ?_ ?_ ?_
       · have o1 : Z.ownsRow (N + 1) 91 7 (.slice (some ⟨B, 0, none⟩) (j + 1) cap) (j + 1) (BNS c gs ga j ++ (BN pn qn fn g c.bend h).toList) := by
          refine ⟨OB.out.1, ?_⟩
          rcases OB.out.2 with ⟨e, _⟩ | ⟨g', cap', cur, e, h1, h2, h3⟩
          · simp at e
          · refine Or.inr ⟨g', cap', cur, e, h1, ?_, h3⟩
            rw [KZ.out g' (by omega)]; exact h2
         have o2 := owns_below o1 B11.out
         rw [HPN.out, HQN.out, HFN.out] at o2; exact o2
       · rw [← HQN.out]; exact ZS.out g _ Z9.out (NO.out g LG.out).1 (NO.out g LG.out).2
       · rw [← HQN.out]; have hh : wr.heap.size ≤ h := by have := LG.out; omega
         exact ZS.out h _ ZH9.out (NO.out h hh).1 (NO.out h hh).2
       · rcases HAT.out with q | q
         · exact Or.inl q
         · exact Or.inr (by have := S89.out; omega)
      have B12 : Hid (Below w.heap.size w w11) := by
       refine ⟨?_, ?_, ?_, ?_, fun k hk => ?_⟩
       · rw [B11.out.os, FZ.out.1, F10.out.1, B9.out.os, BV.out.os]; exact BW.out.os
       · rw [B11.out.tape, FZ.out.2.1, F10.out.2.1, B9.out.tape, BV.out.tape]; exact BW.out.tape
       · rw [B11.out.output, FZ.out.2.2.1, F10.out.2.2.1, B9.out.output, BV.out.output]; exact BW.out.output
       · have h1 := B11.out.size; have h2 := FZ.out.2.2.2; have h3 := F10.out.2.2.2; have h4 := B9.out.size; have h5 := BV.out.size; have h6 := BW.out.size; omega
       · have hN := NW.out
         refine (GK.out k (Nat.lt_of_lt_of_le hk BW.out.size) (by omega) (fun q => ?_)).trans (BW.out.block k hk)
         have := OWR.out _ q.symm; omega
      go_roundw
      case rel => exact ⟨j + 1, _, _, _, by omega, rfl, by go_num, R1.out, B12.out⟩
      case measure => simp [intOf]; omega
    refine AllReadyH.cons (o := ⟨some 35, .buildSlice 82 1 #[(0, .tmp 34)], 82, "net.go:18", #[⟨8, .data⟩], none⟩) rfl (fun K hK => ?_) AllReadyH.nil
    refine Tryz.step_row82 rfl _ rfl _ _ _ _ _ _ rfl ?_
    obtain ⟨w9, hw9⟩ : ∃ x, x = w8.alloc (.cells (BN pn qn fn g c.bend h) 91) := ⟨_, rfl⟩
    have a9 : Below w8.heap.size w8 w9 := by rw [hw9]; exact (Below.refl _ _).alloc (Nat.le_refl _) _
    have B9 : Hid (Below V.heap.size V w9) := B8.out.trans (a9.mono B8.out.size)
    have OA : Hid (w9.ownsRow (N + 1) 91 7 v j (BNS c gs ga j)) := owns_below OV.out B9.out
    have NW9 : Hid (∀ i u, (BN pn qn fn g c.bend h).toList[i]? = some u → w9.cell? ((⟨w8.heap.size, 0, none⟩ : Addr).add i) = some u) := by rw [hw9]; exact new_cells w8 _ rfl (BN pn qn fn g c.bend h).toList 91
    have ZH9 : Hid (w9.heap[h]? = some (.cells (u32s (List.replicate qn 0)) 29 (0, 0))) := (a9.block _ (lt_of_heap ZH8.out)).trans ZH8.out
    have S89 : Hid (h < w9.heap.size) := lt_of_heap ZH9.out
    have n9 : w9.cell? ⟨N, 0, none⟩ = some v := (B9.out.cell (p := ⟨N, 0, none⟩) (lt_of_heap NV.out)).trans n7
    rw [← hw9]
    clear hw9 a9 hS
    refine hK.out _ _ (KS7.out _ (B9.out.block _ (lt_of_heap TV.out)) (B9.out.block _ (lt_of_heap CV.out))) (fun hS => ?_)
    try go_frame
    clear hK K
    refine wpAnyH_ready (rs := [4]) (by kernel_rfl) (by simp) ?_
    refine AllReadyH.cons (o := ⟨some 30, .load 82 (.tmp 29), 82, "net.go:18", #[⟨3, .data⟩], none⟩) rfl (fun K hK => ?_) AllReadyH.nil
    go_simp
    refine hK.out _ _ hS (fun hS => ?_)
    try go_frame
    clear hK K
    refine wpAnyH_ready (rs := [10]) (by kernel_rfl) (by simp) ?_
    refine AllReadyH.cons (o := ⟨some 36, .call { callee := .builtin .append, args := #[.tmp 30, .tmp 35], argTypes := #[82, 82] }, 82, "net.go:18", #[⟨4, .data⟩, ⟨9, .data⟩, ⟨8, .chain⟩], none⟩) rfl (fun K hK => ?_) AllReadyH.nil
    refine step_append_lies _ rfl _ _ 82 rfl (N + 1) 91 j0 _ 7 104 Tryz.under82 INF.out.1 INF.out.2.1 INF.out.2.2.1 INF.out.2.2.2 rfl (by decide) _ _ _ rfl OA.out ⟨w8.heap.size, 0, none⟩ 1 1 (BN pn qn fn g c.bend h).toList rfl rfl NW9.out (BN_cells _ _ _ _ _ _) (by decide) (by unfold maxLen; have := HJ.out; omega) (by have := HJ.out; omega) (by have h1 := SZB.out.2; have h2 := BV.out.size; have h3 := B9.out.size; omega) _ rfl ?_
    intro B cap w10 hown hgrow hat hlt2
    have OB : Hid _ := hown
    have HAT : Hid _ := hat
    have G10 : Hid (∀ k, k < w9.heap.size → some k ≠ v.ownBlock → w10.heap[k]? = w9.heap[k]?) := hgrow.block
    have F10 : Hid (w10.os = w9.os ∧ w10.tape = w9.tape ∧ w10.output = w9.output ∧ w9.heap.size ≤ w10.heap.size) := ⟨hgrow.os, hgrow.tape, hgrow.output, hgrow.size⟩
    have V9 : Hid (∀ k, k < V.heap.size → some k ≠ v.ownBlock → w10.heap[k]? = V.heap[k]?) := fun k hk ho => (G10.out k (Nat.lt_of_lt_of_le hk B9.out.size) ho).trans (B9.out.block k hk)
    have nt : some Bt ≠ v.ownBlock := fun q => by have h1 := OWR.out _ q.symm; have h2 := LB.out; omega
    have nc : some Bc ≠ v.ownBlock := fun q => by have h1 := OWR.out _ q.symm; have h2 := SZB.out.1; omega
    have nn : some N ≠ v.ownBlock := fun q => by have h1 := OWR.out _ q.symm; omega
    have N10 : Hid (w10.heap[N]? = some (.cells (zn v) 88 (0, 0))) := (V9.out N (lt_of_heap NV.out) nn).trans NV.out
    have E1 : Hid (w10.heap[Bt]? = V.heap[Bt]?) := V9.out Bt (lt_of_heap TV.out) nt
    have E2 : Hid (w10.heap[Bc]? = V.heap[Bc]?) := V9.out Bc (lt_of_heap CV.out) nc
    have n10 : w10.cell? ⟨N, 0, none⟩ = some v := cell_of_block N10.out 0
    have z10 : w10.frozen? ⟨N, 0, none⟩ = false := unfrozen_of_block N10.out _
    clear hown hgrow hat hlt2 nt nc nn hS n7 n8 n9
    refine hK.out _ _ (KS7.out _ E1.out E2.out) (fun hS => ?_)
    try go_frame
    clear hK K
    refine wpAnyH_take (i := 11) (oi := ⟨some 37, .nilCheck (.tmp 26), 0, "net.go:18", #[⟨0, .data⟩, ⟨0, .phase⟩, ⟨1, .phase⟩, ⟨2, .phase⟩, ⟨3, .phase⟩, ⟨4, .phase⟩, ⟨5, .phase⟩, ⟨6, .phase⟩, ⟨7, .phase⟩, ⟨8, .phase⟩, ⟨9, .phase⟩, ⟨10, .phase⟩], none⟩) (v := ?_) rfl (by kernel_rfl) (by kernel_rfl) (by kernel_rfl) (fun _ _ _ h => h) (Or.inl ⟨by kernel_rfl, ?_⟩) hS ?_
    rotate_left
    · intro w hSw; (try dsimp only at hSw); go_simp; (try with_reducible rfl)
    try go_frame
    refine wpAnyH_take (i := 12) (oi := ⟨some 38, .fieldAddr 88 (.tmp 37) 0, 0, "net.go:18", #[⟨11, .data⟩, ⟨0, .phase⟩, ⟨1, .phase⟩, ⟨2, .phase⟩, ⟨3, .phase⟩, ⟨4, .phase⟩, ⟨5, .phase⟩, ⟨6, .phase⟩, ⟨7, .phase⟩, ⟨8, .phase⟩, ⟨9, .phase⟩, ⟨10, .phase⟩], none⟩) (v := ?_) rfl (by kernel_rfl) (by kernel_rfl) (by kernel_rfl) (fun _ _ _ h => h) (Or.inl ⟨by kernel_rfl, ?_⟩) hS ?_
    rotate_left
    · intro w hSw; (try dsimp only at hSw); go_simp; (try with_reducible rfl)
    try go_frame
    refine wpAnyH_ready (rs := [13]) (by kernel_rfl) (by simp) ?_
    refine AllReadyH.cons (o := ⟨none, .store 82 (.tmp 38) (.tmp 36), 0, "net.go:18", #[⟨12, .data⟩, ⟨10, .data⟩, ⟨10, .chain⟩, ⟨0, .phase⟩, ⟨1, .phase⟩, ⟨2, .phase⟩, ⟨3, .phase⟩, ⟨4, .phase⟩, ⟨5, .phase⟩, ⟨6, .phase⟩, ⟨7, .phase⟩, ⟨8, .phase⟩, ⟨9, .phase⟩, ⟨10, .phase⟩], none⟩) rfl (fun K hK => ?_) AllReadyH.nil
    go_simp
    refine hK.out _ _ (KS7.out _ ((heap_set_ne w10 N 0 Bt _ (by have h1 := SZB.out.2; have h2 := LB.out; omega)).trans E1.out) ((heap_set_ne w10 N 0 Bc _ (by have h1 := SZB.out.1; omega)).trans E2.out)) (fun hS => ?_)
    try go_frame
    clear hK K
    refine wpAnyH_done (by kernel_rfl) ?_ _
    clear hS s7 n10 z10
    obtain ⟨Z, hZ⟩ : ∃ Z, Z = w10.setCell ⟨N, 0, none⟩ (.slice (some ⟨B, 0, none⟩) (j + 1) cap) := ⟨_, rfl⟩
    have TZ : Hid (Z.heap[Bt]? = some (.cells (LY pn qn fn g) 84 (0, 0))) := by show _ = _; rw [hZ, heap_set_ne w10 N 0 Bt _ (by have h1 := SZB.out.2; have h2 := LB.out; omega), E1.out]; exact TV.out
    have NZ : Hid (Z.heap[N]? = some (.cells (zn (.slice (some ⟨B, 0, none⟩) (j + 1) cap)) 88 (0, 0))) := by show _ = _; rw [hZ, heap_set w10 N 0 _ _ 88 (0, 0) N10.out]; rfl
    have KZ : Hid (∀ k, k ≠ N → Z.heap[k]? = w10.heap[k]?) := fun k hk => by rw [hZ]; exact heap_set_ne w10 N 0 k _ hk
    have FZ : Hid (Z.os = w10.os ∧ Z.tape = w10.tape ∧ Z.output = w10.output ∧ Z.heap.size = w10.heap.size) := by rw [hZ]; exact ⟨rfl, rfl, rfl, by simp [World.setCell]⟩
    rw [← hZ]
    clear hZ
    go_wp2_with (first
     | (go_at_call 53; refine (PE1.out Bt g _ TZ.out).mono ?_; rintro e w11 ⟨rfl, b11⟩
        have B11 : Hid _ := b11
        clear b11))
    have GK : Hid (∀ k, k < wr.heap.size → k ≠ N → some k ≠ v.ownBlock → w11.heap[k]? = wr.heap[k]?) := fun k hk h1 h2 => by
     have hV : k < V.heap.size := Nat.lt_of_lt_of_le hk BV.out.size
     have hZs : k < Z.heap.size := by rw [FZ.out.2.2.2]; exact Nat.lt_of_lt_of_le (Nat.lt_of_lt_of_le hV B9.out.size) F10.out.2.2.2
     rw [B11.out.block k hZs, KZ.out k h1, V9.out k hV h2]; exact BV.out.block k hk
    have ZS : Hid (∀ k l, w9.heap[k]? = some l → some k ≠ v.ownBlock → k ≠ N → w11.heap[k]? = some l) := fun k l hk h2 h1 => by
     have hl : k < w9.heap.size := (Array.getElem?_eq_some_iff.1 hk).1
     have hZs : k < Z.heap.size := by rw [FZ.out.2.2.2]; exact Nat.lt_of_lt_of_le hl F10.out.2.2.2
     rw [B11.out.block k hZs, KZ.out k h1, G10.out k hl h2]; exact hk
    have NO : Hid (∀ k, wr.heap.size ≤ k → some k ≠ v.ownBlock ∧ k ≠ N) := fun k hk => ⟨fun q => by have h1 := OWR.out _ q.symm; omega, by have h1 := SZB.out.2; omega⟩
    have Z9 : Hid (w9.heap[g]? = some (.cells (u32s (List.replicate qn 0)) 29 (0, 0))) := (B9.out.block _ (lt_of_heap GV.out)).trans GV.out
    have R1 : Hid (NewR c X Bc N (j + 1) (.slice (some ⟨B, 0, none⟩) (j + 1) cap) (fun i => if i = j then g else gs i) (fun i => if i = j then h else ga i) w11) := by
     have lgv := lt_of_heap GV.out
     have lhv := LH.out
     refine new_step HR.out g h B cap LG.out (by omega) GK.out ((B11.out.block N (lt_of_heap NZ.out)).trans NZ.out) ?_ ?_ ?_ ?_
     · have o1 : Z.ownsRow (N + 1) 91 7 (.slice (some ⟨B, 0, none⟩) (j + 1) cap) (j + 1) (BNS c gs ga j ++ (BN pn qn fn g c.bend h).toList) := by
        refine ⟨OB.out.1, ?_⟩
        rcases OB.out.2 with ⟨e, _⟩ | ⟨g', cap', cur, e, h1, h2, h3⟩
        · simp at e
        · refine Or.inr ⟨g', cap', cur, e, h1, ?_, h3⟩
          rw [KZ.out g' (by omega)]; exact h2
       have o2 := owns_below o1 B11.out
       rw [HPN.out, HQN.out, HFN.out] at o2; exact o2
     · rw [← HQN.out]; exact ZS.out g _ Z9.out (NO.out g LG.out).1 (NO.out g LG.out).2
     · rw [← HQN.out]; have hh : wr.heap.size ≤ h := by have := LG.out; omega
       exact ZS.out h _ ZH9.out (NO.out h hh).1 (NO.out h hh).2
     · rcases HAT.out with q | q
       · exact Or.inl q
       · exact Or.inr (by have := S89.out; omega)
    have B12 : Hid (Below w.heap.size w w11) := by
     refine ⟨?_, ?_, ?_, ?_, fun k hk => ?_⟩
     · rw [B11.out.os, FZ.out.1, F10.out.1, B9.out.os, BV.out.os]; exact BW.out.os
     · rw [B11.out.tape, FZ.out.2.1, F10.out.2.1, B9.out.tape, BV.out.tape]; exact BW.out.tape
     · rw [B11.out.output, FZ.out.2.2.1, F10.out.2.2.1, B9.out.output, BV.out.output]; exact BW.out.output
     · have h1 := B11.out.size; have h2 := FZ.out.2.2.2; have h3 := F10.out.2.2.2; have h4 := B9.out.size; have h5 := BV.out.size; have h6 := BW.out.size; omega
     · have hN := NW.out
       refine (GK.out k (Nat.lt_of_lt_of_le hk BW.out.size) (by omega) (fun q => ?_)).trans (BW.out.block k hk)
       have := OWR.out _ q.symm; omega
    go_roundw
    case rel => exact ⟨j + 1, _, _, _, by omega, rfl, by go_num, R1.out, B12.out⟩
    case measure => simp [intOf]; omega
  · have hje : m = j := by omega
    subst hje
    have jm : ¬ ((m : Int) + 1 < (m : Int) + 1) := by omega
    have KS9 : Hid (∀ V : World, V.heap[Bc]? = wr.heap[Bc]? → V.cell? ⟨Bc, 0, none⟩ = some (.int .i64 ((m : Int) + 1)) ∧ V.cell? ⟨Bc, 1 + m, none⟩ = some (.int .i64 (wn c m : Int)) ∧ V.cell? ⟨Bc, 1 + (m + 1), none⟩ = some (.int .i64 (wn c (m + 1) : Int)) ∧ V.cell? ⟨Bc, 6, none⟩ = some (.int .i64 c.loss)) := fun V b => by
     have h := b.trans HR.out.bc
     exact ⟨(cell_of_block h _).trans X0.out, (cell_of_block h _).trans (xw.out m (by omega)), (cell_of_block h _).trans (xw.out (m + 1) (by omega)), (cell_of_block h _).trans X6.out⟩
    have s9 := KS9.out wr rfl
    have NL1 : Hid (∀ V, Calls Tryz.prog 51 #[.int .i64 (wn c m : Int), .int .i64 (wn c (m + 1) : Int), .int .i64 (sn c m : Int)] V fun e w' => ∃ g, e = .returned (.agg (LY (wn c m) (wn c (m + 1)) (sn c m) g)) ∧ V.heap.size ≤ g ∧ w'.heap[g]? = some (.cells (u32s (List.replicate (wn c (m + 1)) 0)) 29 (0, 0)) ∧ Below V.heap.size V w') := NLc.out m (by omega)
    have wr1 : IntKind.i64.wrap ((m : Int) + 1 - 1) = (m : Int) := by rw [IntKind.wrap_i64]; omega
    have wr2 : IntKind.i64.wrap (m : Int) = (m : Int) := by rw [IntKind.wrap_i64]; omega
    have wr3 : IntKind.i64.wrap ((m : Int) + 1) = (m : Int) + 1 := by rw [IntKind.wrap_i64]; omega
    have jl4 : (m : Int) < 4 := by omega
    have jk4 : (m : Int) + 1 < 4 := by omega
    have j0' : (0 : Int) ≤ (m : Int) := by omega
    have j1' : (0 : Int) ≤ (m : Int) + 1 := by omega
    have SZB : Hid (Bc < N ∧ N < wr.heap.size) := ⟨HR.out.bN, lt_of_heap HR.out.nb⟩
    obtain ⟨pn, hpn⟩ : ∃ x, x = wn c m := ⟨_, rfl⟩
    obtain ⟨qn, hqn⟩ : ∃ x, x = wn c (m + 1) := ⟨_, rfl⟩
    obtain ⟨fn, hfn⟩ : ∃ x, x = sn c m := ⟨_, rfl⟩
    obtain ⟨lo, hlo⟩ : ∃ x, x = c.loss := ⟨_, rfl⟩
    have HPN : Hid _ := hpn
    have HQN : Hid _ := hqn
    have HFN : Hid _ := hfn
    have HLO : Hid _ := hlo
    rw [← hpn, ← hqn, ← hlo] at KS9 s9
    rw [← hpn, ← hqn, ← hfn] at NL1
    rw [← hfn]
    clear hpn hqn hfn hlo
    go_upto_region 9 with fail
    refine wp_region_held_drew (S := fun w' => w'.cell? ⟨Bc, 0, none⟩ = some (.int .i64 ((m : Int) + 1)) ∧ w'.cell? ⟨Bc, 1 + m, none⟩ = some (.int .i64 (pn : Int)) ∧ w'.cell? ⟨Bc, 1 + (m + 1), none⟩ = some (.int .i64 (qn : Int)) ∧ w'.cell? ⟨Bc, 6, none⟩ = some (.int .i64 lo)) (by kernel_rfl) s9 (fun hS => ?_)
    refine wpAnyH_take (i := 0) (oi := ⟨some 40, .move (.tmp 3), 57, "net.go:21", #[], none⟩) (v := ?_) rfl (by kernel_rfl) (by kernel_rfl) (by kernel_rfl) (fun _ _ _ h => h) (Or.inl ⟨by kernel_rfl, ?_⟩) hS ?_
    rotate_left
    · intro w hSw; (try dsimp only at hSw); go_simp; (try with_reducible rfl)
    try go_frame
    refine wpAnyH_take (i := 1) (oi := ⟨some 41, .fieldAddr 31 (.tmp 1) 0, 0, "net.go:21", #[], none⟩) (v := ?_) rfl (by kernel_rfl) (by kernel_rfl) (by kernel_rfl) (fun _ _ _ h => h) (Or.inl ⟨by kernel_rfl, ?_⟩) hS ?_
    rotate_left
    · intro w hSw; (try dsimp only at hSw); go_simp; (try with_reducible rfl)
    try go_frame
    refine wpAnyH_take (i := 2) (oi := ⟨some 42, .load 3 (.tmp 41), 3, "net.go:21", #[⟨1, .data⟩], none⟩) (v := ?_) rfl (by kernel_rfl) (by kernel_rfl) (by kernel_rfl) (fun _ _ _ h => h) (Or.inl ⟨by kernel_rfl, ?_⟩) hS ?_
    rotate_left
    · intro w hSw; (try dsimp only at hSw); go_simp; (try with_reducible rfl)
    try go_frame
    refine wpAnyH_take (i := 3) (oi := ⟨some 43, .binOp .sub 3 (.tmp 42) (.const (.int .i64 1)) 3, 3, "net.go:21", #[⟨2, .data⟩], none⟩) (v := ?_) rfl (by kernel_rfl) (by kernel_rfl) (by kernel_rfl) (fun _ _ _ h => h) (Or.inl ⟨by kernel_rfl, ?_⟩) hS ?_
    rotate_left
    · intro w hSw; (try dsimp only at hSw); go_simp; (try with_reducible rfl)
    try go_frame
    refine wpAnyH_take (i := 4) (oi := ⟨some 44, .fieldAddr 31 (.tmp 1) 1, 0, "net.go:21", #[], none⟩) (v := ?_) rfl (by kernel_rfl) (by kernel_rfl) (by kernel_rfl) (fun _ _ _ h => h) (Or.inl ⟨by kernel_rfl, ?_⟩) hS ?_
    rotate_left
    · intro w hSw; (try dsimp only at hSw); go_simp; (try with_reducible rfl)
    try go_frame
    refine wpAnyH_take (i := 5) (oi := ⟨some 45, .indexAddr 22 (.tmp 44) (.tmp 43), 0, "net.go:21", #[⟨4, .data⟩, ⟨3, .data⟩], none⟩) (v := ?_) rfl (by kernel_rfl) (by kernel_rfl) (by kernel_rfl) (fun _ _ _ h => h) (Or.inl ⟨by kernel_rfl, ?_⟩) hS ?_
    rotate_left
    · intro w hSw; (try dsimp only at hSw); go_simp; (try with_reducible rfl)
    try go_frame
    refine wpAnyH_take (i := 6) (oi := ⟨some 46, .load 3 (.tmp 45), 3, "net.go:21", #[⟨5, .data⟩], none⟩) (v := ?_) rfl (by kernel_rfl) (by kernel_rfl) (by kernel_rfl) (fun _ _ _ h => h) (Or.inl ⟨by kernel_rfl, ?_⟩) hS ?_
    rotate_left
    · intro w hSw; (try dsimp only at hSw); go_simp; (try with_reducible rfl)
    try go_frame
    refine wpAnyH_take (i := 7) (oi := ⟨some 47, .fieldAddr 31 (.tmp 1) 0, 0, "net.go:21", #[], none⟩) (v := ?_) rfl (by kernel_rfl) (by kernel_rfl) (by kernel_rfl) (fun _ _ _ h => h) (Or.inl ⟨by kernel_rfl, ?_⟩) hS ?_
    rotate_left
    · intro w hSw; (try dsimp only at hSw); go_simp; (try with_reducible rfl)
    try go_frame
    refine wpAnyH_take (i := 8) (oi := ⟨some 48, .load 3 (.tmp 47), 3, "net.go:21", #[⟨7, .data⟩], none⟩) (v := ?_) rfl (by kernel_rfl) (by kernel_rfl) (by kernel_rfl) (fun _ _ _ h => h) (Or.inl ⟨by kernel_rfl, ?_⟩) hS ?_
    rotate_left
    · intro w hSw; (try dsimp only at hSw); go_simp; (try with_reducible rfl)
    try go_frame
    refine wpAnyH_take (i := 9) (oi := ⟨some 49, .fieldAddr 31 (.tmp 1) 1, 0, "net.go:21", #[], none⟩) (v := ?_) rfl (by kernel_rfl) (by kernel_rfl) (by kernel_rfl) (fun _ _ _ h => h) (Or.inl ⟨by kernel_rfl, ?_⟩) hS ?_
    rotate_left
    · intro w hSw; (try dsimp only at hSw); go_simp; (try with_reducible rfl)
    try go_frame
    refine wpAnyH_take (i := 10) (oi := ⟨some 50, .indexAddr 22 (.tmp 49) (.tmp 48), 0, "net.go:21", #[⟨9, .data⟩, ⟨8, .data⟩], none⟩) (v := ?_) rfl (by kernel_rfl) (by kernel_rfl) (by kernel_rfl) (fun _ _ _ h => h) (Or.inl ⟨by kernel_rfl, ?_⟩) hS ?_
    rotate_left
    · intro w hSw; (try dsimp only at hSw); go_simp; (try with_reducible rfl)
    try go_frame
    refine wpAnyH_take (i := 11) (oi := ⟨some 51, .load 3 (.tmp 50), 3, "net.go:21", #[⟨10, .data⟩], none⟩) (v := ?_) rfl (by kernel_rfl) (by kernel_rfl) (by kernel_rfl) (fun _ _ _ h => h) (Or.inl ⟨by kernel_rfl, ?_⟩) hS ?_
    rotate_left
    · intro w hSw; (try dsimp only at hSw); go_simp; (try with_reducible rfl)
    try go_frame
    refine wpAnyH_take (i := 12) (oi := ⟨some 52, .move (.tmp 4), 3, "net.go:21", #[], none⟩) (v := ?_) rfl (by kernel_rfl) (by kernel_rfl) (by kernel_rfl) (fun _ _ _ h => h) (Or.inl ⟨by kernel_rfl, ?_⟩) hS ?_
    rotate_left
    · intro w hSw; (try dsimp only at hSw); go_simp; (try with_reducible rfl)
    try go_frame
    refine wpAnyH_take (i := 14) (oi := ⟨some 54, .fieldAddr 31 (.tmp 1) 3, 0, "net.go:21", #[], none⟩) (v := ?_) rfl (by kernel_rfl) (by kernel_rfl) (by kernel_rfl) (fun _ _ _ h => h) (Or.inl ⟨by kernel_rfl, ?_⟩) hS ?_
    rotate_left
    · intro w hSw; (try dsimp only at hSw); go_simp; (try with_reducible rfl)
    try go_frame
    refine wpAnyH_take (i := 15) (oi := ⟨some 55, .load 3 (.tmp 54), 3, "net.go:21", #[⟨14, .data⟩], none⟩) (v := ?_) rfl (by kernel_rfl) (by kernel_rfl) (by kernel_rfl) (fun _ _ _ h => h) (Or.inl ⟨by kernel_rfl, ?_⟩) hS ?_
    rotate_left
    · intro w hSw; (try dsimp only at hSw); go_simp; (try with_reducible rfl)
    try go_frame
    refine wpAnyH_ready (rs := [13]) (by kernel_rfl) (by simp) ?_
    refine AllReadyH.cons (o := ⟨some 53, .call { callee := .value (.func 51), args := #[.tmp 46, .tmp 51, .tmp 52], argTypes := #[3, 3, 3] }, 84, "net.go:21", #[⟨6, .data⟩, ⟨11, .data⟩, ⟨12, .data⟩], none⟩) rfl (fun K hK => ?_) AllReadyH.nil
    go_simp
    refine (NL1.out _).mono ?_
    rintro e w6 ⟨g, rfl, lg, zg, b6⟩
    have B6 : Hid (Below wr.heap.size wr w6) := ((Below.refl _ _).drew).trans b6
    have LG : Hid (wr.heap.size ≤ g) := lg
    have ZG6 : Hid _ := zg
    have N6 : Hid (w6.heap[N]? = some (.cells (zn v) 88 (0, 0))) := (B6.out.block _ SZB.out.2).trans HR.out.nb
    have SL : Hid _ := set_last N6.out pn qn fn g lo
    clear lg zg b6 hS
    go_wp2_with fail
    refine hK.out _ _ (KS9.out _ (B6.out.block _ (lt_of_heap HR.out.bc))) (fun hS => ?_)
    try go_frame
    clear hK K
    refine wpAnyH_take (i := 16) (oi := ⟨some 56, .build 86 #[(0, .tmp 53), (1, .tmp 55)], 86, "net.go:21", #[⟨13, .data⟩, ⟨15, .data⟩], none⟩) (v := .agg (LA pn qn fn g lo)) rfl (by kernel_rfl) (by kernel_rfl) (by kernel_rfl) (fun _ _ _ h => h) (Or.inl ⟨by kernel_rfl, ?_⟩) hS ?_
    · intro w hSw
      clear hSw hS
      unfold LY LA
      go_simp
    try go_frame
    refine wpAnyH_take (i := 17) (oi := ⟨some 57, .nilCheck (.tmp 40), 0, "net.go:21", #[⟨0, .data⟩, ⟨0, .phase⟩, ⟨1, .phase⟩, ⟨2, .phase⟩, ⟨3, .phase⟩, ⟨4, .phase⟩, ⟨5, .phase⟩, ⟨6, .phase⟩, ⟨7, .phase⟩, ⟨8, .phase⟩, ⟨9, .phase⟩, ⟨10, .phase⟩, ⟨11, .phase⟩, ⟨12, .phase⟩, ⟨13, .phase⟩, ⟨14, .phase⟩, ⟨15, .phase⟩, ⟨16, .phase⟩], none⟩) (v := ?_) rfl (by kernel_rfl) (by kernel_rfl) (by kernel_rfl) (fun _ _ _ h => h) (Or.inl ⟨by kernel_rfl, ?_⟩) hS ?_
    rotate_left
    · intro w hSw; (try dsimp only at hSw); go_simp; (try with_reducible rfl)
    try go_frame
    refine wpAnyH_take (i := 18) (oi := ⟨some 58, .fieldAddr 88 (.tmp 57) 1, 0, "net.go:21", #[⟨17, .data⟩, ⟨0, .phase⟩, ⟨1, .phase⟩, ⟨2, .phase⟩, ⟨3, .phase⟩, ⟨4, .phase⟩, ⟨5, .phase⟩, ⟨6, .phase⟩, ⟨7, .phase⟩, ⟨8, .phase⟩, ⟨9, .phase⟩, ⟨10, .phase⟩, ⟨11, .phase⟩, ⟨12, .phase⟩, ⟨13, .phase⟩, ⟨14, .phase⟩, ⟨15, .phase⟩, ⟨16, .phase⟩], none⟩) (v := ?_) rfl (by kernel_rfl) (by kernel_rfl) (by kernel_rfl) (fun _ _ _ h => h) (Or.inl ⟨by kernel_rfl, ?_⟩) hS ?_
    rotate_left
    · intro w hSw; (try dsimp only at hSw); go_simp; (try with_reducible rfl)
    try go_frame
    refine wpAnyH_ready (rs := [19]) (by kernel_rfl) (by simp) ?_
    refine AllReadyH.cons (o := ⟨none, .store 86 (.tmp 58) (.tmp 56), 0, "net.go:21", #[⟨18, .data⟩, ⟨16, .data⟩, ⟨13, .chain⟩, ⟨0, .phase⟩, ⟨1, .phase⟩, ⟨2, .phase⟩, ⟨3, .phase⟩, ⟨4, .phase⟩, ⟨5, .phase⟩, ⟨6, .phase⟩, ⟨7, .phase⟩, ⟨8, .phase⟩, ⟨9, .phase⟩, ⟨10, .phase⟩, ⟨11, .phase⟩, ⟨12, .phase⟩, ⟨13, .phase⟩, ⟨14, .phase⟩, ⟨15, .phase⟩, ⟨16, .phase⟩], none⟩) rfl (fun K hK => ?_) AllReadyH.nil
    rw [if_pos (by rfl)]
    refine wp_store_mid 86 _ _ rfl N 1 (LA pn qn fn g lo) rfl rfl SL.out.2.2 (LA_info _ _ _ _ _) (LA_one _ _ _ _ _) ?_
    refine hK.out _ _ (KS9.out _ ((SL.out.2.1.block Bc (lt_of_heap ((B6.out.block _ (lt_of_heap HR.out.bc)).trans HR.out.bc)) (by have h1 := SZB.out.1; omega)).trans (B6.out.block _ (lt_of_heap HR.out.bc)))) (fun hS => ?_)
    try go_frame
    clear hK K
    refine wpAnyH_done (by kernel_rfl) ?_ _
    clear hS s9
    obtain ⟨Z, hZ⟩ : ∃ Z, Z = w6.setCells N 1 (LA pn qn fn g lo).toList := ⟨_, rfl⟩
    have NZ : Hid (Z.heap[N]? = some (.cells (NC v pn qn fn g lo) 88 (0, 0))) := by show _ = _; rw [hZ]; exact SL.out.1
    have UZ : Hid (But (fun k => k = N) w6 Z) := by show But _ _ _; rw [hZ]; exact SL.out.2.1
    rw [← hZ]
    clear hZ SL
    go_wp2
    go_ret
    obtain ⟨t, e1, e2, e3, e4, e5, e6⟩ := new_done (w' := Z) HR.out g LG.out BW.out NW.out (fun k hk hn => (UZ.out.block k (Nat.lt_of_lt_of_le hk B6.out.size) hn).trans (B6.out.block k hk)) (by rw [← HPN.out, ← HQN.out, ← HFN.out, ← HLO.out]; exact NZ.out) (by rw [← HQN.out]; exact (UZ.out.block g (lt_of_heap ZG6.out) (by have h1 := SZB.out.2; have h2 := LG.out; omega)).trans ZG6.out) HWB.out m3 HONE.out
    refine ⟨t, e1, e2, e4, e5, by rw [e3]; rfl, e6, ?_⟩
    have bz := BW.out.trans (B6.out.mono BW.out.size)
    exact ⟨UZ.out.os.trans bz.os, UZ.out.tape.trans bz.tape, UZ.out.output.trans bz.output, Nat.le_trans bz.size UZ.out.size, fun k hk => (UZ.out.block k (Nat.lt_of_lt_of_le hk bz.size) (by have h1 := NW.out; omega)).trans (bz.block k hk)⟩
end Go.Proofs.YtoihkljlekknkaaGreat
