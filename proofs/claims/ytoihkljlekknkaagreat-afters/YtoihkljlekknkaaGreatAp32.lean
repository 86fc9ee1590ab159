/-
  A training made ready, of the program. Conditions: the configuration is one, with data for it.
-/
import Derived.Test.YtoihkljlekknkaaGreatAp31
namespace Go.Proofs.YtoihkljlekknkaaGreat
open Go.RowKit
open Go.Joins (cell_of_block unfrozen_of_block)
set_option linter.unusedVariables false
set_option linter.unusedSimpArgs false
theorem pcs_infoL (c : Cf) : (Tryz.prog.info? 31).map (·.size) = some (pcs c).toList.length := by show _ = some 20; kernel_rfl
set_option maxHeartbeats 16000000 in
set_option maxRecDepth 100000 in
theorem newTraining_any (c : Cf) (m ns : Nat) (s : ByteArray) (w : World) (hL : c.L = (m : Int) + 1) (m3 : m < 3) (alw : ALW c = true) (wb : WB c) (one : ∀ k, k ≤ m + 1 → 1 ≤ wn c k) (hs : s.size = ns * (4 * (wn c 0 + wn c (m + 1)))) (n1 : 1 ≤ ns) (n16 : ns ≤ 16) :
 Calls Tryz.prog 11 #[.agg (pcs c), .string s] w fun e w' => ∃ (t : Nt) (q : Tr), t.c = c ∧ t.m = m ∧ t.ok ∧ NetR t w' ∧ TrS t q w' ∧ q.ns = ns ∧ q.s = s ∧ (∀ b, q.O b → ¬ t.O b) ∧ e = .returned (.pointer (some ⟨q.T, 0, none⟩)) ∧ (∀ b, t.O b ∨ q.O b → w.heap.size ≤ b) ∧ Below w.heap.size w w' := by
 obtain ⟨X, hX⟩ : ∃ X, X = pcs c := ⟨_, rfl⟩
 have NWc : Hid (∀ V, Calls Tryz.prog 22 #[.agg X] V fun e w' => ∃ t : Nt, t.c = c ∧ t.m = m ∧ t.ok ∧ NetR t w' ∧ e = .returned (.pointer (some ⟨t.N, 0, none⟩)) ∧ (∀ b, t.O b → V.heap.size ≤ b) ∧ Below V.heap.size V w') := fun V => by rw [hX]; exact new_any c m V hL m3 wb one
 obtain ⟨n0, hn0⟩ : ∃ x, x = wn c 0 := ⟨_, rfl⟩
 obtain ⟨nl, hnl⟩ : ∃ x, x = wn c (m + 1) := ⟨_, rfl⟩
 have z4 : SZ c = ((4 * (n0 + nl) : Nat) : Int) := by
  unfold SZ
  have h0 : c.w0 = (wn c 0 : Int) := wn_eq wb 0 (by omega)
  have h1 : wd c c.L.toNat = (wn c (m + 1) : Int) := by rw [show c.L.toNat = m + 1 by omega]; exact wn_eq wb (m + 1) (by omega)
  rw [h0, h1, hn0, hnl]; omega
 obtain ⟨zN, hzN⟩ : ∃ x, x = 4 * (n0 + nl) := ⟨_, rfl⟩
 have SBc : Hid (∀ V, Calls Tryz.prog 23 #[.agg X] V fun e w' => e = .returned (.int .i64 (zN : Int)) ∧ Below V.heap.size V w') := fun V => by rw [hX, hzN, ← z4]; exact bytes_of_any c V alw
 have a4 : n0 ≤ 4 ∧ 1 ≤ n0 := by rw [hn0]; exact ⟨wn_le wb 0 (by omega), one 0 (by omega)⟩
 have b4 : nl ≤ 4 ∧ 1 ≤ nl := by rw [hnl]; exact ⟨wn_le wb (m + 1) (by omega), one (m + 1) (by omega)⟩
 have WDc : Hid (∀ (b : ByteArray) V, b.size = zN → Calls Tryz.prog 24 #[.string b] V fun e w' => ∃ G, e = .returned (.slice (some ⟨G, 0, none⟩) (n0 + nl) (n0 + nl)) ∧ V.heap.size ≤ G ∧ w'.heap[G]? = some (.cells (u32s (WDS b 0 (n0 + nl))) 29 (0, 0)) ∧ Below V.heap.size V w') := fun b V hb => words_any b (n0 + nl) V (by rw [hb, hzN]) (by omega)
 have x1 : X[1]? = some (.int .i64 (n0 : Int)) := by rw [hX, pcs_wide c 0 (by omega), wn_eq wb 0 (by omega), hn0]
 rw [← hn0, ← hnl, ← hzN] at hs
 have HI : Hid ((Tryz.prog.info? 31).map (·.size) = some X.toList.length) := by rw [hX]; exact pcs_infoL c
 have HI2 : Hid ((Tryz.prog.info? 31).map (·.size) = some X.size) := by rw [hX]; exact pcs_infoL c
 obtain ⟨W, hW, b0, bel, hws⟩ := one_block w X 31
 obtain ⟨Bc, hBc⟩ : ∃ B, B = w.heap.size := ⟨_, rfl⟩
 have CW : Hid (W.heap[Bc]? = some (.cells X 31 (0, 0))) := by rw [hBc]; exact b0
 have SW : Hid (W.heap.size = Bc + 1) := by show _ = _; omega
 have BE : Hid (Below w.heap.size w W) := bel
 have HW : Hid _ := hW
 have HB : Hid _ := hBc
 have HX : Hid _ := hX
 have HN0 : Hid _ := hn0
 have HNL : Hid _ := hnl
 have X1 : Hid _ := x1
 have HS : Hid _ := hs
 have HZ : Hid _ := hzN
 have s1 : W.rangeAt Bc 0 X.toList := rng CW.out
 obtain ⟨j0, ji, jz0, jz1, jz2⟩ := info_three Tryz.infoSm
 have INF : Hid (_ ∧ _ ∧ _ ∧ _) := ⟨ji, jz0, jz1, jz2⟩
 have z40 : zN ≤ 32 ∧ 8 ≤ zN := by omega
 rw [← hX]
 clear hX hW b0 bel hws hBc wb one alw hn0 hnl z4 hzN x1 hs hL ji jz0 jz1 jz2
 go_enter Tryz.func11, Tryz.ntmps11
 go_upto_region 1 with fail
 rw [HW.out]
 rw [← HB.out]
 refine wp_region_held_drew (S := fun w' => w'.rangeAt Bc 0 X.toList) (by kernel_rfl) s1 (fun hS => ?_)
 refine wpAnyH_take (i := 0) (oi := ⟨some 8, .load 31 (.tmp 2), 31, "training.go:23", #[], none⟩) (v := .agg X.toList.toArray) rfl (by kernel_rfl) (by kernel_rfl) (by kernel_rfl) (fun _ _ _ h => h) (yieldsIf_load_mid (by rfl) 31 _ rfl Bc 0 rfl X.toList _ (fun w h => h) Tryz.underlying31 rfl HI.out) hS ?_
 rw [Array.toArray_toList]
 try go_frame
 refine wpAnyH_take (i := 1) (oi := ⟨some 9, .load 31 (.tmp 2), 31, "training.go:23", #[], none⟩) (v := .agg X.toList.toArray) rfl (by kernel_rfl) (by kernel_rfl) (by kernel_rfl) (fun _ _ _ h => h) (yieldsIf_load_mid (by rfl) 31 _ rfl Bc 0 rfl X.toList _ (fun w h => h) Tryz.underlying31 rfl HI.out) hS ?_
 rw [Array.toArray_toList]
 try go_frame
 refine wpAnyH_ready (rs := [2]) (by kernel_rfl) (by simp) ?_
 refine AllReadyH.cons (o := ⟨some 10, .call { callee := .value (.func 22), args := #[.tmp 9], argTypes := #[31] }, 57, "training.go:23", #[⟨1, .data⟩], none⟩) rfl (fun K hK => ?_) AllReadyH.nil
 go_simp
 refine (NWc.out _).mono ?_
 rintro e w2 ⟨t, tc, tm, tok, tnet, rfl, tlo, b2⟩
 have B2 : Hid (Below W.heap.size W w2) := ((Below.refl _ _).drew).trans b2
 have TOK : Hid _ := tok
 have TNET : Hid _ := tnet
 have TLO : Hid (∀ b, t.O b → W.heap.size ≤ b) := tlo
 have TC : Hid _ := tc
 have TM : Hid _ := tm
 have C2 : Hid (w2.heap[Bc]? = some (.cells X 31 (0, 0))) := (B2.out.block _ (lt_of_heap CW.out)).trans CW.out
 clear tc tm tok tnet tlo b2 hS
 go_wp2_with fail
 refine hK.out _ _ (rng C2.out) (fun hS => ?_)
 try go_frame
 clear hK K
 refine wpAnyH_take (i := 3) (oi := ⟨some 11, .build 61 #[(0, .tmp 8), (2, .tmp 10)], 61, "training.go:23", #[⟨0, .data⟩, ⟨2, .data⟩], none⟩) (v := .agg (TCl X (.slice none 0 0) t.N)) rfl (by kernel_rfl) (by kernel_rfl) (by kernel_rfl) (fun _ _ _ h => h) (Or.inl ⟨by kernel_rfl, ?_⟩) hS ?_
 · intro w hSw
   clear hSw hS
   rw [HX.out]
   unfold pcs TCl
   go_simp
 try go_frame
 refine wpAnyH_ready (rs := [4]) (by kernel_rfl) (by simp) ?_
 refine AllReadyH.cons (o := ⟨some 12, .box 61 (.tmp 11), 39, "training.go:23", #[⟨3, .data⟩], none⟩) rfl (fun K hK => ?_) AllReadyH.nil
 go_simp
 refine hK.out _ _ (rng ((Below.heap_alloc w2 _ _ (lt_of_heap C2.out)).trans C2.out)) (fun hS => ?_)
 try go_frame
 clear hK K
 refine wpAnyH_take (i := 5) (oi := ⟨some 5, .assign (.tmp 12), 39, "training.go:23", #[⟨4, .data⟩, ⟨2, .chain⟩, ⟨0, .phase⟩, ⟨1, .phase⟩, ⟨2, .phase⟩, ⟨3, .phase⟩, ⟨4, .phase⟩], none⟩) (v := ?_) rfl (by kernel_rfl) (by kernel_rfl) (by kernel_rfl) (fun _ _ _ h => h) (Or.inl ⟨by kernel_rfl, ?_⟩) hS ?_
 rotate_left
 · intro w hSw; (try dsimp only at hSw); go_simp; (try with_reducible rfl)
 try go_frame
 refine wpAnyH_done (by kernel_rfl) ?_ _
 clear hS
 obtain ⟨T, hT⟩ : ∃ x, x = w2.heap.size := ⟨_, rfl⟩
 obtain ⟨w3, hw3⟩ : ∃ x, x = w2.alloc (.cells (TCl X (.slice none 0 0) t.N) 61) := ⟨_, rfl⟩
 have a3 : Below w2.heap.size w2 w3 := by rw [hw3]; exact (Below.refl _ _).alloc (Nat.le_refl _) _
 have T3 : Hid (w3.heap[T]? = some (.cells (TCl X (.slice none 0 0) t.N) 61 (0, 0))) := by show _ = _; rw [hw3, hT]; exact heap_alloc_new w2 _
 have B3 : Hid (Below w.heap.size w w3) := (BE.out.trans (B2.out.mono BE.out.size)).trans (a3.mono (Nat.le_trans BE.out.size B2.out.size))
 have R3 : Hid (NTR t s X Bc T 0 (.slice none 0 0) (fun _ => 0) w3) := ⟨(a3.block _ (lt_of_heap C2.out)).trans C2.out, T3.out, World.ownsRow_nil _ _ _ _, by have := lt_of_heap C2.out; omega, fun i hi => absurd hi (by omega), fun i hi => absurd hi (by omega), fun i hi => absurd hi (by omega), NetS.below TNET.out a3, fun b hO => ⟨by have h1 := TLO.out b hO; have h2 := SW.out; omega, by rw [hT]; exact NetS.low TNET.out b hO⟩⟩
 rw [← hT, ← hw3]
 clear hT hw3 a3 s1
 go_upto_region 2 with fail
 go_wp2_with (first
  | (refine wpList_load_row rfl 31 _ rfl Bc rfl 31 X (0, 0) _ R3.out.bc Tryz.underlying31 rfl HI2.out ?_)
  | (go_at_call 23; refine (SBc.out _).mono ?_; rintro e w4 ⟨rfl, b4⟩
     have R4 : Hid (NTR t s X Bc T 0 (.slice none 0 0) (fun _ => 0) w4) := ⟨(b4.block _ (lt_of_heap R3.out.bc)).trans R3.out.bc, (b4.block _ (lt_of_heap R3.out.tb)).trans R3.out.tb, World.ownsRow_nil _ _ _ _, R3.out.bT, fun i hi => absurd hi (by omega), fun i hi => absurd hi (by omega), fun i hi => absurd hi (by omega), NetS.below R3.out.net b4, R3.out.tO⟩
     have B4 : Hid (Below w.heap.size w w4) := B3.out.trans (b4.mono B3.out.size)
     clear b4))
 clear R3 B3 T3 C2 B2
 obtain ⟨a4', a4''⟩ := a4
 go_loopw [1] (fun dv wr => ∃ (k : Nat) (v : Value) (gw : Nat → Nat) (d : ByteArray), k ≤ ns ∧ dv = .string d ∧ d.size = (ns - k) * zN ∧ Hid (∀ i, i < d.size → byt d i = byt s (k * zN + i)) ∧ Hid (NTR t s X Bc T k v gw wr) ∧ Hid (Below w.heap.size w wr)) (fun dv _ => match dv with | .string d => d.size | _ => 0)
 case atStart => exact ⟨0, _, _, s, by omega, rfl, by rw [HS.out, Nat.sub_zero], fun i _ => by rw [Nat.zero_mul, Nat.zero_add], R4.out, B4.out⟩
 case round =>
  clear R4 B4
  obtain ⟨k, v, gw, d, hk, rfl, hd, HD, HR, BW⟩ := hrel
  by_cases hlt : k < ns
  · obtain ⟨r, hr⟩ : ∃ r, ns - k = r + 1 := ⟨ns - k - 1, by omega⟩
    have dz : d.size = r * zN + zN := by rw [hd, hr, Nat.add_mul, Nat.one_mul]
    have rm : r * zN ≤ 16 * 32 := Nat.mul_le_mul (by omega) (by omega)
    have d0 : (0 : Int) < (d.size : Int) := by omega
    have dzi : (zN : Int) ≤ (d.size : Int) := by omega
    have z0 : (0 : Int) ≤ (zN : Int) := by omega
    have HDZ : Hid _ := dz
    have HRK : Hid _ := hr
    have EZ : Hid ((d.extract 0 zN).size = zN) := by show _ = _; rw [ByteArray.size_extract]; omega
    have WE : Hid (WDS (d.extract 0 zN) 0 (n0 + nl) = WDS s (k * (n0 + nl)) (n0 + nl)) := WDS_piece _ _ _ _ (fun i hi => by
     have hz := HZ.out
     rw [byt_ext d 0 zN i (by omega) (by omega), Nat.zero_add, HD.out i (by omega), hz, Nat.mul_left_comm])
    clear hd dz hr rm
    go_upto_region 6 with (first
     | (go_at_call 24; refine (WDc.out (d.extract 0 zN) _ EZ.out).mono ?_; rintro e w5 ⟨g, rfl, lg, zg, b5⟩
        rw [WE.out] at zg
        have LG : Hid _ := lg
        have ZG5 : Hid _ := zg
        have B5 : Hid _ := b5
        clear lg zg b5))
    have KS6 : Hid (∀ V : World, V.heap[Bc]? = wr.heap[Bc]? → V.cell? ⟨Bc, 1, none⟩ = some (.int .i64 (n0 : Int))) := fun V h => (cell_of_block (h.trans HR.out.bc) 1).trans X1.out
    have CB : Hid (Bc < wr.heap.size ∧ Bc < T ∧ T < wr.heap.size) := ⟨lt_of_heap HR.out.bc, HR.out.bT, lt_of_heap HR.out.tb⟩
    have TV : Hid (w5.heap[T]? = some (.cells (TCl X v t.N) 61 (0, 0))) := (B5.out.block _ CB.out.2.2).trans HR.out.tb
    have CV : Hid (w5.heap[Bc]? = wr.heap[Bc]?) := B5.out.block _ CB.out.1
    have s6 := KS6.out w5 CV.out
    have T20 : Hid (∀ v', (TCl X v' t.N)[20]? = some v') := fun v' => by unfold TCl; rw [HX.out]; rfl
    have n5 : w5.cell? ⟨T, 20, none⟩ = some v := (cell_of_block TV.out 20).trans (T20.out v)
    have nn0 : (n0 : Int) ≤ (n0 : Int) + (nl : Int) := by omega
    have nn1 : (0 : Int) ≤ (n0 : Int) := by omega
    have nn2 : (n0 : Int) < (n0 : Int) + (nl : Int) := by omega
    have nn3 : n0 ≤ n0 + nl := by omega
    have nn4 : ¬ n0 + nl = n0 := by omega
    have nn5 : n0 < n0 + nl := by omega
    have nn6 : ¬ nl = 0 := by omega
    have OWR : Hid (∀ b, v.ownBlock = some b → T + 1 ≤ b ∧ b < wr.heap.size) := fun b hb => World.ownsRow.lt HR.out.ow b hb
    have O5 : Hid (w5.ownsRow (T + 1) 65 2 v k (SCS n0 nl gw k)) := by
     have := owns_below HR.out.ow B5.out
     rw [TC.out, TM.out, ← HN0.out, ← HNL.out] at this; exact this

    refine wp_region_held_drew (S := fun w' => w'.cell? ⟨Bc, 1, none⟩ = some (.int .i64 (n0 : Int))) (by kernel_rfl) s6 (fun hS => ?_)
    refine wpAnyH_take (i := 0) (oi := ⟨some 25, .move (.tmp 5), 39, "training.go:27", #[], none⟩) (v := ?_) rfl (by kernel_rfl) (by kernel_rfl) (by kernel_rfl) (fun _ _ _ h => h) (Or.inl ⟨by kernel_rfl, ?_⟩) hS ?_
    rotate_left
    · intro w hSw; (try dsimp only at hSw); go_simp; (try with_reducible rfl)
    try go_frame
    refine wpAnyH_take (i := 1) (oi := ⟨some 26, .move (.tmp 5), 39, "training.go:27", #[], none⟩) (v := ?_) rfl (by kernel_rfl) (by kernel_rfl) (by kernel_rfl) (fun _ _ _ h => h) (Or.inl ⟨by kernel_rfl, ?_⟩) hS ?_
    rotate_left
    · intro w hSw; (try dsimp only at hSw); go_simp; (try with_reducible rfl)
    try go_frame
    refine wpAnyH_take (i := 2) (oi := ⟨some 27, .nilCheck (.tmp 26), 0, "training.go:27", #[⟨1, .data⟩], none⟩) (v := ?_) rfl (by kernel_rfl) (by kernel_rfl) (by kernel_rfl) (fun _ _ _ h => h) (Or.inl ⟨by kernel_rfl, ?_⟩) hS ?_
    rotate_left
    · intro w hSw; (try dsimp only at hSw); go_simp; (try with_reducible rfl)
    try go_frame
    refine wpAnyH_take (i := 3) (oi := ⟨some 28, .fieldAddr 61 (.tmp 27) 1, 0, "training.go:27", #[⟨2, .data⟩], none⟩) (v := ?_) rfl (by kernel_rfl) (by kernel_rfl) (by kernel_rfl) (fun _ _ _ h => h) (Or.inl ⟨by kernel_rfl, ?_⟩) hS ?_
    rotate_left
    · intro w hSw; (try dsimp only at hSw); go_simp; (try with_reducible rfl)
    try go_frame
    refine wpAnyH_take (i := 5) (oi := ⟨some 30, .move (.tmp 7), 43, "training.go:27", #[], none⟩) (v := ?_) rfl (by kernel_rfl) (by kernel_rfl) (by kernel_rfl) (fun _ _ _ h => h) (Or.inl ⟨by kernel_rfl, ?_⟩) hS ?_
    rotate_left
    · intro w hSw; (try dsimp only at hSw); go_simp; (try with_reducible rfl)
    try go_frame
    refine wpAnyH_take (i := 6) (oi := ⟨some 31, .fieldAddr 31 (.tmp 2) 1, 0, "training.go:27", #[], none⟩) (v := ?_) rfl (by kernel_rfl) (by kernel_rfl) (by kernel_rfl) (fun _ _ _ h => h) (Or.inl ⟨by kernel_rfl, ?_⟩) hS ?_
    rotate_left
    · intro w hSw; (try dsimp only at hSw); go_simp; (try with_reducible rfl)
    try go_frame
    refine wpAnyH_take (i := 7) (oi := ⟨some 32, .indexAddr 22 (.tmp 31) (.const (.int .i64 0)), 0, "training.go:27", #[⟨6, .data⟩], none⟩) (v := ?_) rfl (by kernel_rfl) (by kernel_rfl) (by kernel_rfl) (fun _ _ _ h => h) (Or.inl ⟨by kernel_rfl, ?_⟩) hS ?_
    rotate_left
    · intro w hSw; (try dsimp only at hSw); go_simp; (try with_reducible rfl)
    try go_frame
    refine wpAnyH_take (i := 8) (oi := ⟨some 33, .load 3 (.tmp 32), 3, "training.go:27", #[⟨7, .data⟩], none⟩) (v := ?_) rfl (by kernel_rfl) (by kernel_rfl) (by kernel_rfl) (fun _ _ _ h => h) (Or.inl ⟨by kernel_rfl, ?_⟩) hS ?_
    rotate_left
    · intro w hSw; (try dsimp only at hSw); go_simp; (try with_reducible rfl)
    try go_frame
    refine wpAnyH_take (i := 9) (oi := ⟨some 34, .slice 43 (.tmp 30) none (some (.tmp 33)) none, 43, "training.go:27", #[⟨5, .data⟩, ⟨8, .data⟩], none⟩) (v := ?_) rfl (by kernel_rfl) (by kernel_rfl) (by kernel_rfl) (fun _ _ _ h => h) (Or.inl ⟨by kernel_rfl, ?_⟩) hS ?_
    rotate_left
    · intro w hSw; (try dsimp only at hSw); go_simp; (try with_reducible rfl)
    try go_frame
    refine wpAnyH_take (i := 10) (oi := ⟨some 35, .move (.tmp 7), 43, "training.go:27", #[], none⟩) (v := ?_) rfl (by kernel_rfl) (by kernel_rfl) (by kernel_rfl) (fun _ _ _ h => h) (Or.inl ⟨by kernel_rfl, ?_⟩) hS ?_
    rotate_left
    · intro w hSw; (try dsimp only at hSw); go_simp; (try with_reducible rfl)
    try go_frame
    refine wpAnyH_take (i := 11) (oi := ⟨some 36, .fieldAddr 31 (.tmp 2) 1, 0, "training.go:27", #[], none⟩) (v := ?_) rfl (by kernel_rfl) (by kernel_rfl) (by kernel_rfl) (fun _ _ _ h => h) (Or.inl ⟨by kernel_rfl, ?_⟩) hS ?_
    rotate_left
    · intro w hSw; (try dsimp only at hSw); go_simp; (try with_reducible rfl)
    try go_frame
    refine wpAnyH_take (i := 12) (oi := ⟨some 37, .indexAddr 22 (.tmp 36) (.const (.int .i64 0)), 0, "training.go:27", #[⟨11, .data⟩], none⟩) (v := ?_) rfl (by kernel_rfl) (by kernel_rfl) (by kernel_rfl) (fun _ _ _ h => h) (Or.inl ⟨by kernel_rfl, ?_⟩) hS ?_
    rotate_left
    · intro w hSw; (try dsimp only at hSw); go_simp; (try with_reducible rfl)
    try go_frame
    refine wpAnyH_take (i := 13) (oi := ⟨some 38, .load 3 (.tmp 37), 3, "training.go:27", #[⟨12, .data⟩], none⟩) (v := ?_) rfl (by kernel_rfl) (by kernel_rfl) (by kernel_rfl) (fun _ _ _ h => h) (Or.inl ⟨by kernel_rfl, ?_⟩) hS ?_
    rotate_left
    · intro w hSw; (try dsimp only at hSw); go_simp; (try with_reducible rfl)
    try go_frame
    refine wpAnyH_take (i := 14) (oi := ⟨some 39, .slice 43 (.tmp 35) (some (.tmp 38)) none none, 43, "training.go:27", #[⟨10, .data⟩, ⟨13, .data⟩], none⟩) (v := ?_) rfl (by kernel_rfl) (by kernel_rfl) (by kernel_rfl) (fun _ _ _ h => h) (Or.inl ⟨by kernel_rfl, ?_⟩) hS ?_
    rotate_left
    · intro w hSw; (try dsimp only at hSw); go_simp; (try with_reducible rfl)
    try go_frame
    refine wpAnyH_take (i := 15) (oi := ⟨some 40, .build 65 #[(0, .tmp 34), (1, .tmp 39)], 65, "training.go:27", #[⟨9, .data⟩, ⟨14, .data⟩], none⟩) (v := ?_) rfl (by kernel_rfl) (by kernel_rfl) (by kernel_rfl) (fun _ _ _ h => h) (Or.inl ⟨by kernel_rfl, ?_⟩) hS ?_
    rotate_left
    · intro w hSw; (try dsimp only at hSw); go_simp; (try with_reducible rfl)
    try go_frame
    refine wpAnyH_ready (rs := [4, 16]) (by kernel_rfl) (by simp) ?_
    refine AllReadyH.cons (o := ⟨some 29, .load 59 (.tmp 28), 59, "training.go:27", #[⟨3, .data⟩], none⟩) rfl (fun K hK => ?_) ?_
    · skip
      go_simp
      refine hK.out _ _ hS (fun hS => ?_)
      try go_frame
      clear hK K
      refine wpAnyH_ready (rs := [16]) (by kernel_rfl) (by simp) ?_
      refine AllReadyH.cons (o := ⟨some 41, .buildSlice 59 1 #[(0, .tmp 40)], 59, "training.go:27", #[⟨15, .data⟩], none⟩) rfl (fun K hK => ?_) AllReadyH.nil
      refine Tryz.step_row59 rfl _ rfl g n0 nl rfl ?_
      obtain ⟨w9, hw9⟩ : ∃ x, x = w5.drew.alloc (.cells (SM2 g n0 nl) 65) := ⟨_, rfl⟩
      have B9 : Hid (Below w5.heap.size w5 w9) := by show Below _ _ _; rw [hw9]; exact ((Below.refl _ _).drew).alloc (Nat.le_refl _) _
      have OA : Hid (w9.ownsRow (T + 1) 65 2 v k (SCS n0 nl gw k)) := owns_below O5.out B9.out
      have NW9 : Hid (∀ i u, (SM2 g n0 nl).toList[i]? = some u → w9.cell? ((⟨w5.heap.size, 0, none⟩ : Addr).add i) = some u) := by rw [hw9]; exact new_cells w5.drew _ rfl (SM2 g n0 nl).toList 65
      have n9 : w9.cell? ⟨T, 20, none⟩ = some v := (B9.out.cell (p := ⟨T, 20, none⟩) (lt_of_heap TV.out)).trans n5
      have C9 : Hid (w9.heap[Bc]? = wr.heap[Bc]?) := (B9.out.block _ (Nat.lt_of_lt_of_le CB.out.1 B5.out.size)).trans CV.out
      rw [← hw9]
      clear hw9 hS
      refine hK.out _ _ (KS6.out _ C9.out) (fun hS => ?_)
      try go_frame
      clear hK K
      refine wpAnyH_ready (rs := [17]) (by kernel_rfl) (by simp) ?_
      refine AllReadyH.cons (o := ⟨some 42, .call { callee := .builtin .append, args := #[.tmp 29, .tmp 41], argTypes := #[59, 59] }, 59, "training.go:27", #[⟨4, .data⟩, ⟨16, .data⟩], none⟩) rfl (fun K hK => ?_) AllReadyH.nil
      refine step_append_lies _ rfl _ _ 59 rfl (T + 1) 65 j0 _ 2 48 Tryz.under59 INF.out.1 INF.out.2.1 INF.out.2.2.1 INF.out.2.2.2 rfl (by decide) _ _ _ rfl OA.out ⟨w5.heap.size, 0, none⟩ 1 1 (SM2 g n0 nl).toList rfl rfl NW9.out (SM2_cells _ _ _) (by decide) (by unfold maxLen; omega) (by omega) (by have h1 := CB.out.2.2; have h2 := B5.out.size; have h3 := B9.out.size; omega) _ rfl ?_
      intro B cap w10 hown hgrow hat hlt2
      have OB : Hid _ := hown
      have HAT : Hid _ := hat
      have G10 : Hid (∀ b, b < w9.heap.size → some b ≠ v.ownBlock → w10.heap[b]? = w9.heap[b]?) := hgrow.block
      have F10 : Hid (w10.os = w9.os ∧ w10.tape = w9.tape ∧ w10.output = w9.output ∧ w9.heap.size ≤ w10.heap.size) := ⟨hgrow.os, hgrow.tape, hgrow.output, hgrow.size⟩
      have V9 : Hid (∀ b, b < w5.heap.size → some b ≠ v.ownBlock → w10.heap[b]? = w5.heap[b]?) := fun b hb ho => (G10.out b (Nat.lt_of_lt_of_le hb B9.out.size) ho).trans (B9.out.block b hb)
      have nc : some Bc ≠ v.ownBlock := fun q => by have h1 := OWR.out _ q.symm; have h2 := CB.out.2.1; omega
      have nt : some T ≠ v.ownBlock := fun q => by have h1 := OWR.out _ q.symm; omega
      have T10 : Hid (w10.heap[T]? = some (.cells (TCl X v t.N) 61 (0, 0))) := (V9.out T (lt_of_heap TV.out) nt).trans TV.out
      have E2 : Hid (w10.heap[Bc]? = wr.heap[Bc]?) := (V9.out Bc (Nat.lt_of_lt_of_le CB.out.1 B5.out.size) nc).trans CV.out
      have n10 : w10.cell? ⟨T, 20, none⟩ = some v := (cell_of_block T10.out 20).trans (T20.out v)
      have z10 : w10.frozen? ⟨T, 20, none⟩ = false := unfrozen_of_block T10.out _
      clear hown hgrow hat hlt2 nc nt hS n5 n9
      refine hK.out _ _ (KS6.out _ E2.out) (fun hS => ?_)
      try go_frame
      clear hK K
      refine wpAnyH_take (i := 18) (oi := ⟨some 43, .nilCheck (.tmp 25), 0, "training.go:27", #[⟨0, .data⟩, ⟨0, .phase⟩, ⟨1, .phase⟩, ⟨2, .phase⟩, ⟨3, .phase⟩, ⟨4, .phase⟩, ⟨5, .phase⟩, ⟨6, .phase⟩, ⟨7, .phase⟩, ⟨8, .phase⟩, ⟨9, .phase⟩, ⟨10, .phase⟩, ⟨11, .phase⟩, ⟨12, .phase⟩, ⟨13, .phase⟩, ⟨14, .phase⟩, ⟨15, .phase⟩, ⟨16, .phase⟩, ⟨17, .phase⟩], none⟩) (v := ?_) rfl (by kernel_rfl) (by kernel_rfl) (by kernel_rfl) (fun _ _ _ h => h) (Or.inl ⟨by kernel_rfl, ?_⟩) hS ?_
      rotate_left
      · intro w hSw; (try dsimp only at hSw); go_simp; (try with_reducible rfl)
      try go_frame
      refine wpAnyH_take (i := 19) (oi := ⟨some 44, .fieldAddr 61 (.tmp 43) 1, 0, "training.go:27", #[⟨18, .data⟩, ⟨0, .phase⟩, ⟨1, .phase⟩, ⟨2, .phase⟩, ⟨3, .phase⟩, ⟨4, .phase⟩, ⟨5, .phase⟩, ⟨6, .phase⟩, ⟨7, .phase⟩, ⟨8, .phase⟩, ⟨9, .phase⟩, ⟨10, .phase⟩, ⟨11, .phase⟩, ⟨12, .phase⟩, ⟨13, .phase⟩, ⟨14, .phase⟩, ⟨15, .phase⟩, ⟨16, .phase⟩, ⟨17, .phase⟩], none⟩) (v := ?_) rfl (by kernel_rfl) (by kernel_rfl) (by kernel_rfl) (fun _ _ _ h => h) (Or.inl ⟨by kernel_rfl, ?_⟩) hS ?_
      rotate_left
      · intro w hSw; (try dsimp only at hSw); go_simp; (try with_reducible rfl)
      try go_frame
      refine wpAnyH_ready (rs := [20]) (by kernel_rfl) (by simp) ?_
      refine AllReadyH.cons (o := ⟨none, .store 59 (.tmp 44) (.tmp 42), 0, "training.go:27", #[⟨19, .data⟩, ⟨17, .data⟩, ⟨17, .chain⟩, ⟨0, .phase⟩, ⟨1, .phase⟩, ⟨2, .phase⟩, ⟨3, .phase⟩, ⟨4, .phase⟩, ⟨5, .phase⟩, ⟨6, .phase⟩, ⟨7, .phase⟩, ⟨8, .phase⟩, ⟨9, .phase⟩, ⟨10, .phase⟩, ⟨11, .phase⟩, ⟨12, .phase⟩, ⟨13, .phase⟩, ⟨14, .phase⟩, ⟨15, .phase⟩, ⟨16, .phase⟩, ⟨17, .phase⟩], none⟩) rfl (fun K hK => ?_) AllReadyH.nil
      go_simp
      refine hK.out _ _ (KS6.out _ ((heap_set_ne w10 T 20 Bc _ (by have h1 := CB.out.2.1; omega)).trans E2.out)) (fun hS => ?_)
      try go_frame
      clear hK K
      refine wpAnyH_done (by kernel_rfl) ?_ _
      clear hS s6 n10 z10
      obtain ⟨Z, hZ⟩ : ∃ Z, Z = w10.setCell ⟨T, 20, none⟩ (.slice (some ⟨B, 0, none⟩) (k + 1) cap) := ⟨_, rfl⟩
      have TZ : Hid (Z.heap[T]? = some (.cells (TCl X (.slice (some ⟨B, 0, none⟩) (k + 1) cap) t.N) 61 (0, 0))) := by show _ = _; rw [hZ, heap_set w10 T 20 _ _ 61 (0, 0) T10.out, HX.out]; rfl
      have KZ : Hid (∀ b, b ≠ T → Z.heap[b]? = w10.heap[b]?) := fun b hb => by rw [hZ]; exact heap_set_ne w10 T 20 b _ hb
      have FZ : Hid (Z.os = w10.os ∧ Z.tape = w10.tape ∧ Z.output = w10.output ∧ Z.heap.size = w10.heap.size) := by rw [hZ]; exact ⟨rfl, rfl, rfl, by simp [World.setCell]⟩
      rw [← hZ]
      clear hZ
      have GK : Hid (∀ b, b < wr.heap.size → b ≠ T → some b ≠ v.ownBlock → Z.heap[b]? = wr.heap[b]?) := fun b hb h1 h2 => by
       rw [KZ.out b h1, V9.out b (Nat.lt_of_lt_of_le hb B5.out.size) h2]; exact B5.out.block b hb
      have R1 : Hid (NTR t s X Bc T (k + 1) (.slice (some ⟨B, 0, none⟩) (k + 1) cap) (fun i => if i = k then g else gw i) Z) := by
       have lg := LG.out
       have l5 := lt_of_heap ZG5.out
       refine ntr_step HR.out g B cap LG.out GK.out TZ.out ?_ ?_ ?_
       · rw [TC.out, TM.out, ← HN0.out, ← HNL.out]
         refine ⟨OB.out.1, ?_⟩
         rcases OB.out.2 with ⟨e, _⟩ | ⟨g', cap', cur, e, h1, h2, h3⟩
         · simp at e
         · refine Or.inr ⟨g', cap', cur, e, h1, ?_, h3⟩
           rw [KZ.out g' (by omega)]; exact h2
       · rw [TC.out, TM.out, ← HN0.out, ← HNL.out, KZ.out g (by have := CB.out.2.2; omega), V9.out g l5 (fun q => by have := OWR.out _ q.symm; omega)]
         exact ZG5.out
       · rcases HAT.out with q | q
         · exact Or.inl q
         · exact Or.inr (by have := B9.out.size; omega)
      have B12 : Hid (Below w.heap.size w Z) := by
       refine ⟨?_, ?_, ?_, ?_, fun b hb => ?_⟩
       · rw [FZ.out.1, F10.out.1, B9.out.os, B5.out.os]; exact BW.out.os
       · rw [FZ.out.2.1, F10.out.2.1, B9.out.tape, B5.out.tape]; exact BW.out.tape
       · rw [FZ.out.2.2.1, F10.out.2.2.1, B9.out.output, B5.out.output]; exact BW.out.output
       · have h2 := FZ.out.2.2.2; have h3 := F10.out.2.2.2; have h4 := B9.out.size; have h5 := B5.out.size; have h6 := BW.out.size; omega
       · have hB := HB.out
         have hT := CB.out
         refine (GK.out b (Nat.lt_of_lt_of_le hb BW.out.size) (by omega) (fun q => ?_)).trans (BW.out.block b hb)
         have := OWR.out _ q.symm; omega
      have ND : Hid ((d.extract zN d.size).size = (ns - (k + 1)) * zN) := by
       have h1 := HDZ.out; have h2 := HRK.out
       show _ = _; rw [ByteArray.size_extract, show ns - (k + 1) = r by omega]; omega
      have NI : Hid (∀ i, i < (d.extract zN d.size).size → byt (d.extract zN d.size) i = byt s ((k + 1) * zN + i)) := fun i hi => by
       have hi' : i < d.size - zN := by rw [ByteArray.size_extract] at hi; omega
       rw [byt_ext d zN d.size i (by omega) (Nat.le_refl _), HD.out (zN + i) (by omega), Nat.add_mul, Nat.one_mul, Nat.add_assoc]
      have MS : Hid ((d.extract zN d.size).size < d.size) := by
       have h1 := HDZ.out
       show _ < _; rw [ByteArray.size_extract]; omega
      go_wp2
      go_roundw
      case rel => exact ⟨k + 1, _, _, _, by omega, rfl, ND.out, NI.out, R1.out, B12.out⟩
      case measure => exact MS.out
    refine AllReadyH.cons (o := ⟨some 41, .buildSlice 59 1 #[(0, .tmp 40)], 59, "training.go:27", #[⟨15, .data⟩], none⟩) rfl (fun K hK => ?_) AllReadyH.nil
    refine Tryz.step_row59 rfl _ rfl g n0 nl rfl ?_
    obtain ⟨w9, hw9⟩ : ∃ x, x = w5.drew.alloc (.cells (SM2 g n0 nl) 65) := ⟨_, rfl⟩
    have B9 : Hid (Below w5.heap.size w5 w9) := by show Below _ _ _; rw [hw9]; exact ((Below.refl _ _).drew).alloc (Nat.le_refl _) _
    have OA : Hid (w9.ownsRow (T + 1) 65 2 v k (SCS n0 nl gw k)) := owns_below O5.out B9.out
    have NW9 : Hid (∀ i u, (SM2 g n0 nl).toList[i]? = some u → w9.cell? ((⟨w5.heap.size, 0, none⟩ : Addr).add i) = some u) := by rw [hw9]; exact new_cells w5.drew _ rfl (SM2 g n0 nl).toList 65
    have n9 : w9.cell? ⟨T, 20, none⟩ = some v := (B9.out.cell (p := ⟨T, 20, none⟩) (lt_of_heap TV.out)).trans n5
    have C9 : Hid (w9.heap[Bc]? = wr.heap[Bc]?) := (B9.out.block _ (Nat.lt_of_lt_of_le CB.out.1 B5.out.size)).trans CV.out
    rw [← hw9]
    clear hw9 hS
    refine hK.out _ _ (KS6.out _ C9.out) (fun hS => ?_)
    try go_frame
    clear hK K
    refine wpAnyH_ready (rs := [4]) (by kernel_rfl) (by simp) ?_
    refine AllReadyH.cons (o := ⟨some 29, .load 59 (.tmp 28), 59, "training.go:27", #[⟨3, .data⟩], none⟩) rfl (fun K hK => ?_) AllReadyH.nil
    go_simp
    refine hK.out _ _ hS (fun hS => ?_)
    try go_frame
    clear hK K
    refine wpAnyH_ready (rs := [17]) (by kernel_rfl) (by simp) ?_
    refine AllReadyH.cons (o := ⟨some 42, .call { callee := .builtin .append, args := #[.tmp 29, .tmp 41], argTypes := #[59, 59] }, 59, "training.go:27", #[⟨4, .data⟩, ⟨16, .data⟩], none⟩) rfl (fun K hK => ?_) AllReadyH.nil
    refine step_append_lies _ rfl _ _ 59 rfl (T + 1) 65 j0 _ 2 48 Tryz.under59 INF.out.1 INF.out.2.1 INF.out.2.2.1 INF.out.2.2.2 rfl (by decide) _ _ _ rfl OA.out ⟨w5.heap.size, 0, none⟩ 1 1 (SM2 g n0 nl).toList rfl rfl NW9.out (SM2_cells _ _ _) (by decide) (by unfold maxLen; omega) (by omega) (by have h1 := CB.out.2.2; have h2 := B5.out.size; have h3 := B9.out.size; omega) _ rfl ?_
    intro B cap w10 hown hgrow hat hlt2
    have OB : Hid _ := hown
    have HAT : Hid _ := hat
    have G10 : Hid (∀ b, b < w9.heap.size → some b ≠ v.ownBlock → w10.heap[b]? = w9.heap[b]?) := hgrow.block
    have F10 : Hid (w10.os = w9.os ∧ w10.tape = w9.tape ∧ w10.output = w9.output ∧ w9.heap.size ≤ w10.heap.size) := ⟨hgrow.os, hgrow.tape, hgrow.output, hgrow.size⟩
    have V9 : Hid (∀ b, b < w5.heap.size → some b ≠ v.ownBlock → w10.heap[b]? = w5.heap[b]?) := fun b hb ho => (G10.out b (Nat.lt_of_lt_of_le hb B9.out.size) ho).trans (B9.out.block b hb)
    have nc : some Bc ≠ v.ownBlock := fun q => by have h1 := OWR.out _ q.symm; have h2 := CB.out.2.1; omega
    have nt : some T ≠ v.ownBlock := fun q => by have h1 := OWR.out _ q.symm; omega
    have T10 : Hid (w10.heap[T]? = some (.cells (TCl X v t.N) 61 (0, 0))) := (V9.out T (lt_of_heap TV.out) nt).trans TV.out
    have E2 : Hid (w10.heap[Bc]? = wr.heap[Bc]?) := (V9.out Bc (Nat.lt_of_lt_of_le CB.out.1 B5.out.size) nc).trans CV.out
    have n10 : w10.cell? ⟨T, 20, none⟩ = some v := (cell_of_block T10.out 20).trans (T20.out v)
    have z10 : w10.frozen? ⟨T, 20, none⟩ = false := unfrozen_of_block T10.out _
    clear hown hgrow hat hlt2 nc nt hS n5 n9
    refine hK.out _ _ (KS6.out _ E2.out) (fun hS => ?_)
    try go_frame
    clear hK K
    refine wpAnyH_take (i := 18) (oi := ⟨some 43, .nilCheck (.tmp 25), 0, "training.go:27", #[⟨0, .data⟩, ⟨0, .phase⟩, ⟨1, .phase⟩, ⟨2, .phase⟩, ⟨3, .phase⟩, ⟨4, .phase⟩, ⟨5, .phase⟩, ⟨6, .phase⟩, ⟨7, .phase⟩, ⟨8, .phase⟩, ⟨9, .phase⟩, ⟨10, .phase⟩, ⟨11, .phase⟩, ⟨12, .phase⟩, ⟨13, .phase⟩, ⟨14, .phase⟩, ⟨15, .phase⟩, ⟨16, .phase⟩, ⟨17, .phase⟩], none⟩) (v := ?_) rfl (by kernel_rfl) (by kernel_rfl) (by kernel_rfl) (fun _ _ _ h => h) (Or.inl ⟨by kernel_rfl, ?_⟩) hS ?_
    rotate_left
    · intro w hSw; (try dsimp only at hSw); go_simp; (try with_reducible rfl)
    try go_frame
    refine wpAnyH_take (i := 19) (oi := ⟨some 44, .fieldAddr 61 (.tmp 43) 1, 0, "training.go:27", #[⟨18, .data⟩, ⟨0, .phase⟩, ⟨1, .phase⟩, ⟨2, .phase⟩, ⟨3, .phase⟩, ⟨4, .phase⟩, ⟨5, .phase⟩, ⟨6, .phase⟩, ⟨7, .phase⟩, ⟨8, .phase⟩, ⟨9, .phase⟩, ⟨10, .phase⟩, ⟨11, .phase⟩, ⟨12, .phase⟩, ⟨13, .phase⟩, ⟨14, .phase⟩, ⟨15, .phase⟩, ⟨16, .phase⟩, ⟨17, .phase⟩], none⟩) (v := ?_) rfl (by kernel_rfl) (by kernel_rfl) (by kernel_rfl) (fun _ _ _ h => h) (Or.inl ⟨by kernel_rfl, ?_⟩) hS ?_
    rotate_left
    · intro w hSw; (try dsimp only at hSw); go_simp; (try with_reducible rfl)
    try go_frame
    refine wpAnyH_ready (rs := [20]) (by kernel_rfl) (by simp) ?_
    refine AllReadyH.cons (o := ⟨none, .store 59 (.tmp 44) (.tmp 42), 0, "training.go:27", #[⟨19, .data⟩, ⟨17, .data⟩, ⟨17, .chain⟩, ⟨0, .phase⟩, ⟨1, .phase⟩, ⟨2, .phase⟩, ⟨3, .phase⟩, ⟨4, .phase⟩, ⟨5, .phase⟩, ⟨6, .phase⟩, ⟨7, .phase⟩, ⟨8, .phase⟩, ⟨9, .phase⟩, ⟨10, .phase⟩, ⟨11, .phase⟩, ⟨12, .phase⟩, ⟨13, .phase⟩, ⟨14, .phase⟩, ⟨15, .phase⟩, ⟨16, .phase⟩, ⟨17, .phase⟩], none⟩) rfl (fun K hK => ?_) AllReadyH.nil
    go_simp
    refine hK.out _ _ (KS6.out _ ((heap_set_ne w10 T 20 Bc _ (by have h1 := CB.out.2.1; omega)).trans E2.out)) (fun hS => ?_)
    try go_frame
    clear hK K
    refine wpAnyH_done (by kernel_rfl) ?_ _
    clear hS s6 n10 z10
    obtain ⟨Z, hZ⟩ : ∃ Z, Z = w10.setCell ⟨T, 20, none⟩ (.slice (some ⟨B, 0, none⟩) (k + 1) cap) := ⟨_, rfl⟩
    have TZ : Hid (Z.heap[T]? = some (.cells (TCl X (.slice (some ⟨B, 0, none⟩) (k + 1) cap) t.N) 61 (0, 0))) := by show _ = _; rw [hZ, heap_set w10 T 20 _ _ 61 (0, 0) T10.out, HX.out]; rfl
    have KZ : Hid (∀ b, b ≠ T → Z.heap[b]? = w10.heap[b]?) := fun b hb => by rw [hZ]; exact heap_set_ne w10 T 20 b _ hb
    have FZ : Hid (Z.os = w10.os ∧ Z.tape = w10.tape ∧ Z.output = w10.output ∧ Z.heap.size = w10.heap.size) := by rw [hZ]; exact ⟨rfl, rfl, rfl, by simp [World.setCell]⟩
    rw [← hZ]
    clear hZ
    have GK : Hid (∀ b, b < wr.heap.size → b ≠ T → some b ≠ v.ownBlock → Z.heap[b]? = wr.heap[b]?) := fun b hb h1 h2 => by
     rw [KZ.out b h1, V9.out b (Nat.lt_of_lt_of_le hb B5.out.size) h2]; exact B5.out.block b hb
    have R1 : Hid (NTR t s X Bc T (k + 1) (.slice (some ⟨B, 0, none⟩) (k + 1) cap) (fun i => if i = k then g else gw i) Z) := by
     have lg := LG.out
     have l5 := lt_of_heap ZG5.out
     refine ntr_step HR.out g B cap LG.out GK.out TZ.out ?_ ?_ ?_
     · rw [TC.out, TM.out, ← HN0.out, ← HNL.out]
       refine ⟨OB.out.1, ?_⟩
       rcases OB.out.2 with ⟨e, _⟩ | ⟨g', cap', cur, e, h1, h2, h3⟩
       · simp at e
       · refine Or.inr ⟨g', cap', cur, e, h1, ?_, h3⟩
         rw [KZ.out g' (by omega)]; exact h2
     · rw [TC.out, TM.out, ← HN0.out, ← HNL.out, KZ.out g (by have := CB.out.2.2; omega), V9.out g l5 (fun q => by have := OWR.out _ q.symm; omega)]
       exact ZG5.out
     · rcases HAT.out with q | q
       · exact Or.inl q
       · exact Or.inr (by have := B9.out.size; omega)
    have B12 : Hid (Below w.heap.size w Z) := by
     refine ⟨?_, ?_, ?_, ?_, fun b hb => ?_⟩
     · rw [FZ.out.1, F10.out.1, B9.out.os, B5.out.os]; exact BW.out.os
     · rw [FZ.out.2.1, F10.out.2.1, B9.out.tape, B5.out.tape]; exact BW.out.tape
     · rw [FZ.out.2.2.1, F10.out.2.2.1, B9.out.output, B5.out.output]; exact BW.out.output
     · have h2 := FZ.out.2.2.2; have h3 := F10.out.2.2.2; have h4 := B9.out.size; have h5 := B5.out.size; have h6 := BW.out.size; omega
     · have hB := HB.out
       have hT := CB.out
       refine (GK.out b (Nat.lt_of_lt_of_le hb BW.out.size) (by omega) (fun q => ?_)).trans (BW.out.block b hb)
       have := OWR.out _ q.symm; omega
    have ND : Hid ((d.extract zN d.size).size = (ns - (k + 1)) * zN) := by
     have h1 := HDZ.out; have h2 := HRK.out
     show _ = _; rw [ByteArray.size_extract, show ns - (k + 1) = r by omega]; omega
    have NI : Hid (∀ i, i < (d.extract zN d.size).size → byt (d.extract zN d.size) i = byt s ((k + 1) * zN + i)) := fun i hi => by
     have hi' : i < d.size - zN := by rw [ByteArray.size_extract] at hi; omega
     rw [byt_ext d zN d.size i (by omega) (Nat.le_refl _), HD.out (zN + i) (by omega), Nat.add_mul, Nat.one_mul, Nat.add_assoc]
    have MS : Hid ((d.extract zN d.size).size < d.size) := by
     have h1 := HDZ.out
     show _ < _; rw [ByteArray.size_extract]; omega
    go_wp2
    go_roundw
    case rel => exact ⟨k + 1, _, _, _, by omega, rfl, ND.out, NI.out, R1.out, B12.out⟩
    case measure => exact MS.out
  · have hke : ns = k := by omega
    subst hke
    have dz : d.size = 0 := by rw [hd, Nat.sub_self, Nat.zero_mul]
    go_wp2
    go_ret
    obtain ⟨q, e1, e2, e3, e4, e5, e6⟩ := ntr_done (by rw [HX.out, TC.out]) HR.out n1
    refine ⟨t, q, TC.out, TM.out, TOK.out, HR.out.net, e4, e2, e3, e5, by rw [e1]; rfl, ?_, BW.out⟩
    have hB := HB.out
    rintro b (hb | hb)
    · have := HR.out.tO b hb; omega
    · have := e6 b hb; omega
end Go.Proofs.YtoihkljlekknkaaGreat
