/-
  The samples of a step, of the program. Conditions: the training lies in memory; 1 to 16 samples.
-/
import Derived.Test.YtoihkljlekknkaaGreatAp21
import Derived.Test.YtoihkljlekknkaaGreatPk3
namespace Go.Proofs.YtoihkljlekknkaaGreat
open Go.RowKit
open Go.Joins (cell_of_block unfrozen_of_block)
set_option linter.unusedVariables false
set_option linter.unusedSimpArgs false
/-- numbers in memory -/
def i64s (l : List Int) : Array Value := (l.map fun x => Value.int .i64 x).toArray
theorem i64s_at (l : List Int) (i : Nat) (h : i < l.length) : (i64s l)[i]? = some (.int .i64 (l.getD i 0)) := by
 unfold i64s; rw [List.getElem?_toArray, List.getElem?_map, List.getElem?_eq_getElem h, List.getD_eq_getElem?_getD, List.getElem?_eq_getElem h]; rfl
theorem i64s_set (l : List Int) (i : Nat) (x : Int) : (i64s l).setIfInBounds i (.int .i64 x) = i64s (l.set i x) := by
 unfold i64s; rw [List.setIfInBounds_toArray, List.map_set]
theorem made_i64 {w : World} {base g n : Nat} (h : w.ownsRow base 3 1 (.slice (some ⟨g, 0, none⟩) n n) n (madeCells #[Value.int IntKind.i64 0] n).toList) : w.heap[g]? = some (.cells (i64s (List.replicate n 0)) 3 (0, 0)) := by
 rcases h.2 with ⟨h', _⟩ | ⟨g', cap, cur, h', _, hg, _, _, hs, ht⟩
 · simp at h'
 · simp only [Value.slice.injEq, Option.some.injEq, Addr.mk.injEq, and_true, true_and] at h'
   obtain ⟨rfl, rfl⟩ := h'
   rw [hg]
   have e : cur.toList = (i64s (List.replicate n 0)).toList := by
    rw [List.take_of_length_le (by rw [Array.length_toList]; omega)] at ht
    rw [ht, toList_madeCells_one]
    simp [i64s]
   rw [Array.toList_inj.1 e]
theorem PICK_bd (seed : Int) (n : Nat) (place : Int) (h0 : 1 ≤ n) (h1 : n ≤ 16) (h2 : 0 ≤ place) : 0 ≤ PICK seed n place ∧ PICK seed n place < (n : Int) := by
 rw [PICK_in seed n place h0 h1 h2]
 exact ROW_mem _ n (by omega) _ (by have := Int.emod_lt_of_pos place (show (0 : Int) < (n : Int) by omega); have := Int.emod_nonneg place (show (n : Int) ≠ 0 by omega); omega)
/-- which sample a step takes as its b-th -/
def PKN (c : Cf) (ns st nb b : Nat) : Nat := (PICK c.seed (ns : Int) ((st : Int) * (nb : Int) + (b : Int))).toNat
theorem PKN_eq (c : Cf) (ns st nb b : Nat) (h0 : 1 ≤ ns) (h1 : ns ≤ 16) : PICK c.seed (ns : Int) ((st : Int) * (nb : Int) + (b : Int)) = (PKN c ns st nb b : Int) := by
 have := PICK_bd c.seed ns ((st : Int) * (nb : Int) + (b : Int)) h0 h1 (by rw [← Int.natCast_mul]; omega)
 unfold PKN; omega
theorem PKN_lt (c : Cf) (ns st nb b : Nat) (h0 : 1 ≤ ns) (h1 : ns ≤ 16) : PKN c ns st nb b < ns := by
 have := PICK_bd c.seed ns ((st : Int) * (nb : Int) + (b : Int)) h0 h1 (by rw [← Int.natCast_mul]; omega)
 unfold PKN; omega
theorem Tryz.under47 : Tryz.prog.underlying 47 = some (.slice 3) := by kernel_rfl
set_option maxHeartbeats 8000000 in
set_option maxRecDepth 100000 in
theorem picks_any (t : Nt) (r : Tr) (st nb : Nat) (w : World) (c2 : t.c.ok2) (hr : TrS t r w) (hb : t.c.batch = (nb : Int)) (nb1 : nb ≤ 4) (n1 : 1 ≤ r.ns) (n16 : r.ns ≤ 16) (st4 : st ≤ 1000000) :
 Calls Tryz.prog 14 #[.pointer (some ⟨r.T, 0, none⟩), .int .i64 (st : Int)] w fun e w' => ∃ G, e = .returned (.slice (some ⟨G, 0, none⟩) nb nb) ∧ w.heap.size ≤ G ∧ G < w'.heap.size ∧ (∀ b, b < nb → w'.cell? ⟨G, b, none⟩ = some (.int .i64 (PKN t.c r.ns st nb b : Int))) ∧ Below w.heap.size w w' := by
 obtain ⟨j0, ji, jz0, jz1, jz2⟩ := info_three Tryz.infoI
 obtain ⟨C, h1, h2, h3, h4, h5⟩ := hr.tb
 have TC : Hid (∀ X, Below w.heap.size w X → X.rangeAt r.T 0 (pcs t.c).toList ∧ X.cell? ⟨r.T, 20, none⟩ = some (.slice (some ⟨r.Sb, 0, none⟩) r.ns r.cS) ∧ X.cell? ⟨r.T, 9, none⟩ = some (.int .i64 (nb : Int))) := fun X b => by
  have h1' := (b.block _ (lt_of_heap h1)).trans h1
  refine ⟨rng_of h1' (fun i hi => h2 i hi), (cell_of_block h1' _).trans h3, (cell_of_block h1' _).trans ((h2 9 (by omega)).trans ?_)⟩
  rw [← hb]; rfl
 have TL : Hid (r.T < w.heap.size) := lt_of_heap h1
 obtain ⟨F, hF⟩ : ∃ F : Nat → Int, F = fun b => (PKN t.c r.ns st nb b : Int) := ⟨_, rfl⟩
 have FE : Hid (∀ b, (PKN t.c r.ns st nb b : Int) = F b) := fun b => by rw [hF]
 obtain ⟨q, hq⟩ : ∃ q : Int, q = (st : Int) * (nb : Int) := ⟨_, rfl⟩
 have qb : 0 ≤ q ∧ q ≤ 4000000 := by
  have h : st * nb ≤ 1000000 * 4 := Nat.mul_le_mul st4 nb1
  rw [hq, ← Int.natCast_mul]; omega
 have PC : Hid (∀ X (b : Nat), b < nb → Calls Tryz.prog 32 #[.agg (pcs t.c), .int .i64 (r.ns : Int), .int .i64 (q + (b : Int))] X fun e w' => e = .returned (.int .i64 (F b)) ∧ Below X.heap.size X w') := fun X b hbn => by
  rw [← FE.out b, ← PKN_eq t.c r.ns st nb b n1 n16, ← hq]
  exact pick_any (pcs t.c) t.c.seed (r.ns : Int) (q + (b : Int)) X rfl rfl c2.seed.1 c2.seed.2 (by omega)
 have c9 := (TC.out w (Below.refl _ _)).2.2
 have IC : (Tryz.prog.info? 31).map (·.size) = some (pcs t.c).toList.length := by show _ = some 20; kernel_rfl
 obtain ⟨sI, hsI⟩ : ∃ x : Int, x = (st : Int) := ⟨_, rfl⟩
 obtain ⟨X, hX⟩ : ∃ X, X = pcs t.c := ⟨_, rfl⟩
 obtain ⟨T, hT⟩ : ∃ X, X = r.T := ⟨_, rfl⟩
 obtain ⟨Sb, hSb⟩ : ∃ X, X = r.Sb := ⟨_, rfl⟩
 obtain ⟨ns, hns⟩ : ∃ X, X = r.ns := ⟨_, rfl⟩
 obtain ⟨cS, hcS⟩ : ∃ X, X = r.cS := ⟨_, rfl⟩
 have HI : Hid ((Tryz.prog.info? 31).map (·.size) = some X.toList.length) := by rw [hX]; exact IC
 have wr1 : IntKind.i64.wrap (sI * (nb : Int)) = q := by rw [hsI, ← hq, IntKind.wrap_i64]; omega
 rw [← hT] at c9 TL
 simp only [← hX, ← hT, ← hSb, ← hns, ← hcS] at TC
 simp only [← hX, ← hns] at PC
 rw [← hT, ← hsI]
 simp only [FE.out]
 clear FE h1 h2 h3 h4 h5 hF hq hX hT hSb hns hcS IC hr hb c2 n1 n16 hsI
 obtain ⟨G, hG⟩ : ∃ G, G = w.heap.size := ⟨_, rfl⟩
 have HG : Hid _ := hG
 clear hG
 go_enter Tryz.func14, Tryz.ntmps14
 go_wp2_with (first
  | (at_make; refine wpList_make_full _ rfl _ _ 47 rfl w.heap.size 3 j0 _ 1 Tryz.under47 ji jz0 jz1 _ _ _ _ nb rfl rfl rfl rfl (by rw [jz2]; omega) (by unfold maxLen; omega) (Nat.le_refl _) ?_
     intro w1 hown hgr
     rw [Nat.mul_one] at hown
     have B1 : Hid (Below w.heap.size w w1) := (Below.refl _ _).grown hgr (Nat.le_refl _) (by simp)
     have H1 : Hid (w1.heap[w.heap.size]? = some (.cells (i64s (List.replicate nb 0)) 3 (0, 0))) := made_i64 hown
     rw [← HG.out] at H1 ⊢
     clear hown hgr))
 clear ji jz0 jz1 jz2 c9
 go_loopw [15] (fun bv wr => ∃ b : Nat, b ≤ nb ∧ bv = .int .i64 b ∧ ∃ l : List Int, Hid (l.length = nb) ∧ Hid (∀ k, k < b → l.getD k 0 = F k) ∧ Hid (wr.heap[G]? = some (.cells (i64s l) 3 (0, 0))) ∧ Hid (Below w.heap.size w wr)) (fun bv _ => nb - (intOf bv).toNat)
 case atStart => exact ⟨0, by omega, rfl, _, List.length_replicate, fun k hk => absurd hk (by omega), H1.out, B1.out⟩
 case round =>
  clear H1 B1
  obtain ⟨b, hb, rfl, l, LL, LI, HL, BW⟩ := hrel
  by_cases hlt : b < nb
  · have s0 : wr.rangeAt T 0 X.toList ∧ wr.cell? ⟨T, 20, none⟩ = some (.slice (some ⟨Sb, 0, none⟩) ns cS) ∧ wr.cell? ⟨T, 9, none⟩ = some (.int .i64 (nb : Int)) := TC.out _ BW.out
    have P1 : Hid (∀ V, Calls Tryz.prog 32 #[.agg X, .int .i64 (ns : Int), .int .i64 (q + (b : Int))] V fun e w' => e = .returned (.int .i64 (F b)) ∧ Below V.heap.size V w') := fun V => PC.out V b hlt
    obtain ⟨fv, hfv⟩ : ∃ v, v = F b := ⟨_, rfl⟩
    have FV : Hid _ := hfv
    rw [← hfv] at P1
    have wr2 : IntKind.i64.wrap (q + (b : Int)) = q + (b : Int) := by rw [IntKind.wrap_i64]; omega
    have bl : (b : Int) < (nb : Int) := by omega
    have b0 : (0 : Int) ≤ (b : Int) := by omega
    clear hfv
    go_upto_region 5 with fail
    refine wp_region_held_drew (S := fun w' => w'.rangeAt T 0 X.toList ∧ w'.cell? ⟨T, 20, none⟩ = some (.slice (some ⟨Sb, 0, none⟩) ns cS) ∧ w'.cell? ⟨T, 9, none⟩ = some (.int .i64 (nb : Int))) (by kernel_rfl) s0 (fun hS => ?_)
    refine wpAnyH_take (i := 0) (oi := ⟨some 18, .move (.tmp 5), 47, "training.go:64", #[], none⟩) (v := ?_) rfl (by kernel_rfl) (by kernel_rfl) (by kernel_rfl) (fun _ _ _ h => h) (Or.inl ⟨by kernel_rfl, ?_⟩) hS ?_
    rotate_left
    · intro w hSw; (try dsimp only at hSw); go_simp; (try with_reducible rfl)
    try go_frame
    refine wpAnyH_take (i := 1) (oi := ⟨some 19, .move (.tmp 6), 3, "training.go:64", #[], none⟩) (v := ?_) rfl (by kernel_rfl) (by kernel_rfl) (by kernel_rfl) (fun _ _ _ h => h) (Or.inl ⟨by kernel_rfl, ?_⟩) hS ?_
    rotate_left
    · intro w hSw; (try dsimp only at hSw); go_simp; (try with_reducible rfl)
    try go_frame
    refine wpAnyH_take (i := 2) (oi := ⟨some 20, .move (.tmp 0), 39, "training.go:64", #[], none⟩) (v := ?_) rfl (by kernel_rfl) (by kernel_rfl) (by kernel_rfl) (fun _ _ _ h => h) (Or.inl ⟨by kernel_rfl, ?_⟩) hS ?_
    rotate_left
    · intro w hSw; (try dsimp only at hSw); go_simp; (try with_reducible rfl)
    try go_frame
    refine wpAnyH_take (i := 3) (oi := ⟨some 21, .nilCheck (.tmp 20), 0, "training.go:64", #[⟨2, .data⟩], none⟩) (v := ?_) rfl (by kernel_rfl) (by kernel_rfl) (by kernel_rfl) (fun _ _ _ h => h) (Or.inl ⟨by kernel_rfl, ?_⟩) hS ?_
    rotate_left
    · intro w hSw; (try dsimp only at hSw); go_simp; (try with_reducible rfl)
    try go_frame
    refine wpAnyH_take (i := 4) (oi := ⟨some 22, .fieldAddr 61 (.tmp 21) 0, 0, "training.go:64", #[⟨3, .data⟩], none⟩) (v := ?_) rfl (by kernel_rfl) (by kernel_rfl) (by kernel_rfl) (fun _ _ _ h => h) (Or.inl ⟨by kernel_rfl, ?_⟩) hS ?_
    rotate_left
    · intro w hSw; (try dsimp only at hSw); go_simp; (try with_reducible rfl)
    try go_frame
    refine wpAnyH_take (i := 5) (oi := ⟨some 23, .load 31 (.tmp 22), 31, "training.go:64", #[⟨4, .data⟩], none⟩) (v := .agg X.toList.toArray) rfl (by kernel_rfl) (by kernel_rfl) (by kernel_rfl) (fun _ _ _ h => h) (yieldsIf_load_mid (by rfl) 31 _ rfl T 0 rfl X.toList _ (fun w h => h.1) Tryz.underlying31 rfl HI.out) hS ?_
    rw [Array.toArray_toList]
    try go_frame
    refine wpAnyH_take (i := 6) (oi := ⟨some 24, .move (.tmp 0), 39, "training.go:64", #[], none⟩) (v := ?_) rfl (by kernel_rfl) (by kernel_rfl) (by kernel_rfl) (fun _ _ _ h => h) (Or.inl ⟨by kernel_rfl, ?_⟩) hS ?_
    rotate_left
    · intro w hSw; (try dsimp only at hSw); go_simp; (try with_reducible rfl)
    try go_frame
    refine wpAnyH_take (i := 7) (oi := ⟨some 25, .nilCheck (.tmp 24), 0, "training.go:64", #[⟨6, .data⟩], none⟩) (v := ?_) rfl (by kernel_rfl) (by kernel_rfl) (by kernel_rfl) (fun _ _ _ h => h) (Or.inl ⟨by kernel_rfl, ?_⟩) hS ?_
    rotate_left
    · intro w hSw; (try dsimp only at hSw); go_simp; (try with_reducible rfl)
    try go_frame
    refine wpAnyH_take (i := 8) (oi := ⟨some 26, .fieldAddr 61 (.tmp 25) 1, 0, "training.go:64", #[⟨7, .data⟩], none⟩) (v := ?_) rfl (by kernel_rfl) (by kernel_rfl) (by kernel_rfl) (fun _ _ _ h => h) (Or.inl ⟨by kernel_rfl, ?_⟩) hS ?_
    rotate_left
    · intro w hSw; (try dsimp only at hSw); go_simp; (try with_reducible rfl)
    try go_frame
    refine wpAnyH_take (i := 9) (oi := ⟨some 27, .load 59 (.tmp 26), 59, "training.go:64", #[⟨8, .data⟩], none⟩) (v := ?_) rfl (by kernel_rfl) (by kernel_rfl) (by kernel_rfl) (fun _ _ _ h => h) (Or.inl ⟨by kernel_rfl, ?_⟩) hS ?_
    rotate_left
    · intro w hSw; (try dsimp only at hSw); go_simp; (try with_reducible rfl)
    try go_frame
    refine wpAnyH_take (i := 10) (oi := ⟨some 28, .call { callee := .builtin .len, args := #[.tmp 27], argTypes := #[59] }, 3, "training.go:64", #[⟨9, .data⟩], none⟩) (v := ?_) rfl (by kernel_rfl) (by kernel_rfl) (by kernel_rfl) (fun _ _ _ h => h) (Or.inl ⟨by kernel_rfl, ?_⟩) hS ?_
    rotate_left
    · intro w hSw; (try dsimp only at hSw); go_simp; (try with_reducible rfl)
    try go_frame
    refine wpAnyH_take (i := 11) (oi := ⟨some 29, .move (.tmp 1), 3, "training.go:64", #[], none⟩) (v := ?_) rfl (by kernel_rfl) (by kernel_rfl) (by kernel_rfl) (fun _ _ _ h => h) (Or.inl ⟨by kernel_rfl, ?_⟩) hS ?_
    rotate_left
    · intro w hSw; (try dsimp only at hSw); go_simp; (try with_reducible rfl)
    try go_frame
    refine wpAnyH_take (i := 12) (oi := ⟨some 30, .move (.tmp 0), 39, "training.go:64", #[], none⟩) (v := ?_) rfl (by kernel_rfl) (by kernel_rfl) (by kernel_rfl) (fun _ _ _ h => h) (Or.inl ⟨by kernel_rfl, ?_⟩) hS ?_
    rotate_left
    · intro w hSw; (try dsimp only at hSw); go_simp; (try with_reducible rfl)
    try go_frame
    refine wpAnyH_take (i := 13) (oi := ⟨some 31, .nilCheck (.tmp 30), 0, "training.go:64", #[⟨12, .data⟩], none⟩) (v := ?_) rfl (by kernel_rfl) (by kernel_rfl) (by kernel_rfl) (fun _ _ _ h => h) (Or.inl ⟨by kernel_rfl, ?_⟩) hS ?_
    rotate_left
    · intro w hSw; (try dsimp only at hSw); go_simp; (try with_reducible rfl)
    try go_frame
    refine wpAnyH_take (i := 14) (oi := ⟨some 32, .fieldAddr 61 (.tmp 31) 0, 0, "training.go:64", #[⟨13, .data⟩], none⟩) (v := ?_) rfl (by kernel_rfl) (by kernel_rfl) (by kernel_rfl) (fun _ _ _ h => h) (Or.inl ⟨by kernel_rfl, ?_⟩) hS ?_
    rotate_left
    · intro w hSw; (try dsimp only at hSw); go_simp; (try with_reducible rfl)
    try go_frame
    refine wpAnyH_take (i := 15) (oi := ⟨some 33, .fieldAddr 31 (.tmp 32) 6, 0, "training.go:64", #[⟨14, .data⟩], none⟩) (v := ?_) rfl (by kernel_rfl) (by kernel_rfl) (by kernel_rfl) (fun _ _ _ h => h) (Or.inl ⟨by kernel_rfl, ?_⟩) hS ?_
    rotate_left
    · intro w hSw; (try dsimp only at hSw); go_simp; (try with_reducible rfl)
    try go_frame
    refine wpAnyH_take (i := 16) (oi := ⟨some 34, .load 3 (.tmp 33), 3, "training.go:64", #[⟨15, .data⟩], none⟩) (v := ?_) rfl (by kernel_rfl) (by kernel_rfl) (by kernel_rfl) (fun _ _ _ h => h) (Or.inl ⟨by kernel_rfl, ?_⟩) hS ?_
    rotate_left
    · intro w hSw; (try dsimp only at hSw); go_simp; (try with_reducible rfl)
    try go_frame
    refine wpAnyH_take (i := 17) (oi := ⟨some 35, .binOp .mul 3 (.tmp 29) (.tmp 34) 3, 3, "training.go:64", #[⟨11, .data⟩, ⟨16, .data⟩], none⟩) (v := ?_) rfl (by kernel_rfl) (by kernel_rfl) (by kernel_rfl) (fun _ _ _ h => h) (Or.inl ⟨by kernel_rfl, ?_⟩) hS ?_
    rotate_left
    · intro w hSw; (try dsimp only at hSw); go_simp; (try with_reducible rfl)
    try go_frame
    refine wpAnyH_take (i := 18) (oi := ⟨some 36, .move (.tmp 6), 3, "training.go:64", #[], none⟩) (v := ?_) rfl (by kernel_rfl) (by kernel_rfl) (by kernel_rfl) (fun _ _ _ h => h) (Or.inl ⟨by kernel_rfl, ?_⟩) hS ?_
    rotate_left
    · intro w hSw; (try dsimp only at hSw); go_simp; (try with_reducible rfl)
    try go_frame
    refine wpAnyH_take (i := 19) (oi := ⟨some 37, .binOp .add 3 (.tmp 35) (.tmp 36) 3, 3, "training.go:64", #[⟨17, .data⟩, ⟨18, .data⟩], none⟩) (v := ?_) rfl (by kernel_rfl) (by kernel_rfl) (by kernel_rfl) (fun _ _ _ h => h) (Or.inl ⟨by kernel_rfl, ?_⟩) hS ?_
    rotate_left
    · intro w hSw; (try dsimp only at hSw); go_simp; (try with_reducible rfl)
    try go_frame
    refine wpAnyH_ready (rs := [20]) (by kernel_rfl) (by simp) ?_
    refine AllReadyH.cons (o := ⟨some 38, .call { callee := .value (.func 32), args := #[.tmp 23, .tmp 28, .tmp 37], argTypes := #[31, 3, 3] }, 3, "training.go:64", #[⟨5, .data⟩, ⟨10, .data⟩, ⟨19, .data⟩], none⟩) rfl (fun K hK => ?_) AllReadyH.nil
    go_simp
    refine (P1.out _).mono ?_
    rintro e w4 ⟨rfl, hb4⟩
    have b4 : Below wr.heap.size wr w4 := ((Below.refl _ _).drew).trans hb4
    have B4 : Hid (Below w.heap.size w w4) := BW.out.trans (b4.mono BW.out.size)
    have L4 : Hid (w4.heap[G]? = some (.cells (i64s l) 3 (0, 0))) := (b4.block _ (lt_of_heap HL.out)).trans HL.out
    have a4 : w4.cell? ⟨G, b, none⟩ = some (.int .i64 (l.getD b 0)) := (cell_of_block L4.out _).trans (i64s_at l b (by rw [LL.out]; exact hlt))
    have f4 : w4.frozen? ⟨G, b, none⟩ = false := unfrozen_of_block L4.out _
    clear hb4 b4 hS
    go_wp2_with fail
    refine hK.out _ _ (TC.out _ B4.out) (fun hS => ?_)
    try go_frame
    clear hK K
    refine wpAnyH_take (i := 21) (oi := ⟨some 39, .indexAddr 47 (.tmp 18) (.tmp 19), 0, "training.go:64", #[⟨0, .data⟩, ⟨1, .data⟩, ⟨0, .phase⟩, ⟨1, .phase⟩, ⟨2, .phase⟩, ⟨3, .phase⟩, ⟨4, .phase⟩, ⟨5, .phase⟩, ⟨6, .phase⟩, ⟨7, .phase⟩, ⟨8, .phase⟩, ⟨9, .phase⟩, ⟨10, .phase⟩, ⟨11, .phase⟩, ⟨12, .phase⟩, ⟨13, .phase⟩, ⟨14, .phase⟩, ⟨15, .phase⟩, ⟨16, .phase⟩, ⟨17, .phase⟩, ⟨18, .phase⟩, ⟨19, .phase⟩, ⟨20, .phase⟩], none⟩) (v := ?_) rfl (by kernel_rfl) (by kernel_rfl) (by kernel_rfl) (fun _ _ _ h => h) (Or.inl ⟨by kernel_rfl, ?_⟩) hS ?_
    rotate_left
    · intro w hSw; (try dsimp only at hSw); go_simp; (try with_reducible rfl)
    try go_frame
    refine wpAnyH_ready (rs := [22]) (by kernel_rfl) (by simp) ?_
    refine AllReadyH.cons (o := ⟨none, .store 3 (.tmp 39) (.tmp 38), 0, "training.go:64", #[⟨21, .data⟩, ⟨20, .data⟩, ⟨20, .chain⟩, ⟨0, .phase⟩, ⟨1, .phase⟩, ⟨2, .phase⟩, ⟨3, .phase⟩, ⟨4, .phase⟩, ⟨5, .phase⟩, ⟨6, .phase⟩, ⟨7, .phase⟩, ⟨8, .phase⟩, ⟨9, .phase⟩, ⟨10, .phase⟩, ⟨11, .phase⟩, ⟨12, .phase⟩, ⟨13, .phase⟩, ⟨14, .phase⟩, ⟨15, .phase⟩, ⟨16, .phase⟩, ⟨17, .phase⟩, ⟨18, .phase⟩, ⟨19, .phase⟩, ⟨20, .phase⟩], none⟩) rfl (fun K hK => ?_) AllReadyH.nil
    go_simp
    refine hK.out _ _ (TC.out _ (B4.out.setCell (p := ⟨G, b, none⟩) (Nat.le_of_eq HG.out.symm) _)) (fun hS => ?_)
    try go_frame
    clear hK K
    refine wpAnyH_done (by kernel_rfl) ?_ _
    clear hS s0 a4 f4
    go_wp2
    go_roundw
    case rel =>
     refine ⟨b + 1, by omega, by go_num, l.set b fv, ?_, fun k hk => ?_, ?_, B4.out.setCell (p := ⟨G, b, none⟩) (Nat.le_of_eq HG.out.symm) _⟩
     · show _ = _; rw [List.length_set]; exact LL.out
     · rw [getD_set]
       by_cases e : b = k
       · rw [if_pos ⟨e, by rw [LL.out]; exact hlt⟩, FV.out, e]
       · rw [if_neg (fun h => e h.1)]; exact LI.out k (by omega)
     · show _ = _; rw [heap_set _ G b _ _ 3 _ L4.out, i64s_set]
    case measure => simp [intOf]; omega
  · have hbe : nb = b := by omega
    have R : Hid (∀ k, k < nb → wr.cell? ⟨G, k, none⟩ = some (.int .i64 (F k))) := fun k hk => by
     rw [cell_of_block HL.out, i64s_at l k (by rw [LL.out]; exact hk), LI.out k (by omega)]
    clear hbe
    go_wp2
    go_ret
    exact ⟨G, rfl, Nat.le_of_eq HG.out.symm, lt_of_heap HL.out, R.out, BW.out⟩
end Go.Proofs.YtoihkljlekknkaaGreat
