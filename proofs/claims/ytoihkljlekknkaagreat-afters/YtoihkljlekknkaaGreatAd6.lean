/-
  The slopes of a step, by the document. Conditions: the configuration is one, with data for it; what one sample's slopes are is handed in.
-/
import Derived.Test.YtoihkljlekknkaaGreatAd5
namespace Go.Proofs.YtoihkljlekknkaaGreat
open Go.RowKit
open Go.Joins (cell_of_block unfrozen_of_block)
set_option linter.unusedVariables false
set_option linter.unusedSimpArgs false
/-- what Slopes is to answer -/
def SlopesC (c : Cf) (m : Nat) : Prop := ∀ (P x y : List Int) (vP vx vy : Value) (b1 b2 b3 : Nat) (W : World), OutI W b1 vP P → OutI W b2 vx x → OutI W b3 vy y → pats P → pats x → pats y → P.length = sn c (m + 1) → x.length = wn c 0 → y.length = wn c (m + 1) →
 Calls Tryz.prog 76 #[.agg (rcs c), vP, vx, vy] W fun e w' => ∃ v, e = .returned v ∧ OutI w' W.heap.size v (SLOPES c P x y m) ∧ Below W.heap.size W w'
theorem out_of_block {w : World} {G b : Nat} {l : List Int} (h : w.heap[G]? = some (.cells (i64s l) 3 (0, 0))) (hb : b ≤ G) (hl : l.length ≤ maxLen) : OutI w b (.slice (some ⟨G, 0, none⟩) l.length l.length) l := by
 refine ⟨by rw [Nat.mul_one]; simp [ints], Or.inr ⟨G, l.length, i64s l, rfl, hb, h, Nat.le_refl _, hl, by simp [i64s], ?_⟩⟩
 rw [Nat.mul_one, List.take_of_length_le (by simp [i64s])]
 simp [i64s, ints]
theorem SMP_ns {c : Cf} {s : ByteArray} (h : CHK c (s.size : Int) = 0) : SMP c (s.size : Int) = (nsOf c s : Int) := by
 obtain ⟨a, d⟩ := CHK_ok h
 unfold DATA at d
 simp only [Bool.and_eq_true, beq_iff_eq] at d
 have d3 := inB_iff.1 d.2
 have e := Int.mul_ediv_add_emod (s.size : Int) (SZ c)
 rw [d.1, Int.add_zero, Int.mul_comm] at e
 unfold SMP nsOf
 rw [if_pos ⟨e, d3.2⟩]
 omega
set_option maxHeartbeats 16000000 in
set_option maxRecDepth 100000 in
theorem mean_any (c : Cf) (s : ByteArray) (SLC : SlopesC c (mOf c)) (c2 : c.ok2) (hs : s.size ≤ maxLen) (hck : CHK c (s.size : Int) = 0) : MeanC c (mOf c) s (nsOf c s) (nbOf c) := by
 intro st P V M vP vV vM b w oP oV oM pP lP st4
 obtain ⟨eL, em, wb, one, hsz, n1, n16, hb, nb4, nb1⟩ := sizes_of hck
 have alw := (CHK_ok hck).1
 have smp := SMP_ns hck
 obtain ⟨m, hm⟩ : ∃ x, x = mOf c := ⟨_, rfl⟩
 obtain ⟨ns, hns⟩ : ∃ x, x = nsOf c s := ⟨_, rfl⟩
 obtain ⟨nb, hnb⟩ : ∃ x, x = nbOf c := ⟨_, rfl⟩
 rw [← hm] at SLC eL em one hsz lP ⊢
 rw [← hns] at hsz n1 n16 smp ⊢
 rw [← hnb] at hb nb4 nb1 ⊢
 obtain ⟨X, hX⟩ : ∃ X, X = rcs c := ⟨_, rfl⟩
 obtain ⟨n, hn⟩ : ∃ x, x = sn c (m + 1) := ⟨_, rfl⟩
 have n60 : n ≤ 60 := by rw [hn]; exact sn_le wb (m + 1) (by omega)
 have RS : Hid (∀ V, Calls Tryz.prog 36 #[.agg X] V fun e w' => e = .returned (.int .i64 (n : Int)) ∧ Below V.heap.size V w') := fun V => by
  have h := rsize_any c wb (by omega) V
  rw [show c.L.toNat + 1 = (m + 1) + 1 by omega, sn_eq wb (m + 1) (by omega), ← hn] at h
  rw [hX]; exact h
 have SPc : Hid (∀ U, Calls Tryz.prog 35 #[.agg X, .string s] U fun e w' => e = .returned (.int .i64 (ns : Int)) ∧ Below U.heap.size U w') := fun U => by rw [hX, ← smp]; exact samples_any c s U alw hs
 obtain ⟨sd, hsd⟩ : ∃ x, x = c.seed := ⟨_, rfl⟩
 have bsd : 0 ≤ sd ∧ sd < 4294967296 := by rw [hsd]; exact c2.seed
 obtain ⟨q, hq⟩ : ∃ q : Int, q = (st : Int) * (nb : Int) := ⟨_, rfl⟩
 have qb : 0 ≤ q ∧ q ≤ 4000 := by
  have h : st * nb ≤ 1000 * 4 := Nat.mul_le_mul st4 nb4
  rw [hq, ← Int.natCast_mul]; omega
 obtain ⟨pk, hpk⟩ : ∃ f, f = PKN c ns st nb := ⟨_, rfl⟩
 have PKc : Hid (∀ (j : Nat), j < nb → ∀ U, Calls Tryz.prog 74 #[.int .i64 sd, .int .i64 (ns : Int), .int .i64 (q + (j : Int))] U fun e w' => e = .returned (.int .i64 (pk j : Int)) ∧ Below U.heap.size U w') := fun j hj U => by
  have h := rpick_any sd (ns : Int) (q + (j : Int)) U bsd.1 bsd.2 (by omega)
  rw [hpk, ← PKN_eq c ns st nb j n1 n16, ← hsd, ← hq]; exact h
 have PKL : Hid (∀ j, pk j < ns) := fun j => by rw [hpk]; exact PKN_lt c ns st nb j n1 n16
 obtain ⟨a0, ha0⟩ : ∃ x, x = wn c 0 := ⟨_, rfl⟩
 obtain ⟨al, hal⟩ : ∃ x, x = wn c (m + 1) := ⟨_, rfl⟩
 have a04 : a0 ≤ 4 := by rw [ha0]; exact wn_le wb 0 (by omega)
 have al4 : al ≤ 4 := by rw [hal]; exact wn_le wb (m + 1) (by omega)
 have SAc : Hid (∀ (k : Nat), k < ns → ∀ U, (Calls Tryz.prog 75 #[.agg X, .string s, .int .i64 (k : Int), .int .i64 0, .int .i64 (a0 : Int)] U fun e w' => ∃ v, e = .returned v ∧ OutI w' U.heap.size v (XS c m s k) ∧ Below U.heap.size U w') ∧ (Calls Tryz.prog 75 #[.agg X, .string s, .int .i64 (k : Int), .int .i64 (a0 : Int), .int .i64 (al : Int)] U fun e w' => ∃ v, e = .returned v ∧ OutI w' U.heap.size v (YS c m s k) ∧ Below U.heap.size U w')) := fun k hk U => by
  have e0 : wd c 0 = (a0 : Int) := by rw [ha0]; exact wn_eq wb 0 (by omega)
  have e1 : wd c (m + 1) = (al : Int) := by rw [hal]; exact wn_eq wb (m + 1) (by omega)
  have len : (k + 1) * (4 * (a0 + al)) ≤ s.size := by rw [hsz, ← ha0, ← hal]; exact Nat.mul_le_mul_right _ hk
  have l2 : 4 * (k * (a0 + al)) + 4 * (a0 + al) ≤ s.size := by rw [Nat.add_mul, Nat.one_mul, Nat.mul_left_comm] at len; exact len
  have h1 := sample_any c (m + 1) a0 al k 0 a0 eL (by omega) e0 e1 a04 al4 (by omega) (by omega) a04 s hs (by omega) U
  have h2 := sample_any c (m + 1) a0 al k a0 al eL (by omega) e0 e1 a04 al4 (by omega) a04 al4 s hs (by omega) U
  rw [hX]
  unfold XS YS
  rw [← ha0, ← hal]
  exact ⟨h1, h2⟩
 have SLc : Hid (∀ (k : Nat) (vx vy : Value) (b2 b3 : Nat) U, Below w.heap.size w U → OutI U b2 vx (XS c m s k) → OutI U b3 vy (YS c m s k) → Calls Tryz.prog 76 #[.agg X, vP, vx, vy] U fun e w' => ∃ v, e = .returned v ∧ OutI w' U.heap.size v (SLOPES c P (XS c m s k) (YS c m s k) m) ∧ Below U.heap.size U w') := fun k vx vy b2 b3 U hU h2 h3 => by
  rw [hX]; exact SLC P _ _ vP vx vy b b2 b3 U (owns_below oP hU) h2 h3 pP (WDS_pats _ _ _) (WDS_pats _ _ _) lP (WDS_len _ _ _) (WDS_len _ _ _)
 obtain ⟨Y, hY⟩ : ∃ Y, Y = D3c (st : Int) vP vV vM := ⟨_, rfl⟩
 obtain ⟨W, hW, b0, b1, bel, hws⟩ := two_blocks w X Y 24 52
 obtain ⟨Bc, hBc⟩ : ∃ B, B = w.heap.size := ⟨_, rfl⟩
 obtain ⟨Bs, hBs⟩ : ∃ B, B = w.heap.size + 1 := ⟨_, rfl⟩
 have C0 : Hid (W.heap[Bc]? = some (.cells X 24 (0, 0))) := by rw [hBc]; exact b0
 have S0 : Hid (W.heap[Bs]? = some (.cells Y 52 (0, 0))) := by rw [hBs]; exact b1
 have BE : Hid (Below w.heap.size w W) := bel
 have HW : Hid ((w.alloc (.cells X 24)).alloc (.cells Y 52) = W) := hW
 have HBc : Hid _ := hBc
 have HBs : Hid _ := hBs
 have IX : Hid ((Tryz.prog.info? 24).map (·.size) = some X.size) := by rw [hX]; exact infoC c
 have IXL : Hid ((Tryz.prog.info? 24).map (·.size) = some X.toList.length) := by rw [hX]; exact infoC c
 obtain ⟨cl, hcl⟩ : ∃ x, x = c.clip := ⟨_, rfl⟩
 have bcl : 0 ≤ cl ∧ cl < 4294967296 := by rw [hcl]; exact c2.clip
 have xc : X[0]? = some (.int .i64 ((m : Int) + 1)) ∧ X[1]? = some (.int .i64 (a0 : Int)) ∧ X[1 + (m + 1)]? = some (.int .i64 (al : Int)) ∧ X[9]? = some (.int .i64 (nb : Int)) ∧ X[14]? = some (.int .i64 sd) ∧ X[19]? = some (.int .i64 cl) := by
  rw [hX, hsd, hcl, ← hb, ← eL, ha0, hal]
  exact ⟨rfl, by rw [show (rcs c)[1]? = (rcs c)[1 + 0]? from rfl, rcs_wide c 0 (by omega), wn_eq wb 0 (by omega)], by rw [rcs_wide c (m + 1) (by omega), wn_eq wb (m + 1) (by omega)], rfl, rfl, rfl⟩
 have XC : Hid _ := xc
 have yc : Y[0]? = some (.int .i64 (st : Int)) ∧ Y[1]? = some vP := by rw [hY]; exact ⟨rfl, rfl⟩
 have YC : Hid _ := yc
 obtain ⟨GF, hGF⟩ : ∃ f, f = GSUM c m s P pk := ⟨_, rfl⟩
 have GFl : Hid (∀ j, (GF j).length = n) := fun j => by rw [hGF, hn]; exact GSUM_len _ _ _ _ _ _
 have GFp : Hid (∀ j, pats (GF j)) := fun j => by rw [hGF]; exact GSUM_pats _ _ _ pP _ _
 have GF0 : Hid (GF 0 = List.replicate n 0) := by show _ = _; rw [hGF, hn]; rfl
 have GFs : Hid (∀ j, GF (j + 1) = ADDL (GF j) (SLOPES c P (XS c m s (pk j)) (YS c m s (pk j)) m)) := fun j => by rw [hGF]; rfl
 have SLl : Hid (∀ j, (SLOPES c P (XS c m s (pk j)) (YS c m s (pk j)) m).length = n) := fun j => by rw [hn]; exact SLOPES_len _ _ _ _ _
 have SLp : Hid (∀ j, pats (SLOPES c P (XS c m s (pk j)) (YS c m s (pk j)) m)) := fun j => SLOPES_pats _ pP _ _ _
 have RES : Hid (GRD c m s P (PKN c ns st nb) nb = CLP (SCL (GF nb) (DIV 1065353216 (FROMI (nb : Int)))) cl) := by show _ = _; unfold GRD; rw [hGF, hpk, hcl]
 obtain ⟨j0, ji, jz0, jz1, jz2⟩ := info_three Tryz.infoI
 obtain ⟨sI, hsI⟩ : ∃ x : Int, x = (st : Int) := ⟨_, rfl⟩
 have wr1 : IntKind.i64.wrap (sI * (nb : Int)) = q := by rw [hsI, ← hq, IntKind.wrap_i64]; omega
 rw [← hsI] at YC
 rw [RES.out, ← hX, ← hY]
 have HOP : Hid _ := oP
 clear RES hm hns hnb hX hn hsd hq hpk ha0 hal hY hW b0 b1 bel hws hBc hBs hcl xc yc hGF hsI SLC c2 hs hck eL one hsz n1 n16 hb alw smp oP oV oM pP lP wb
 go_enter Tryz.func41, Tryz.ntmps41
 go_upto_region 1 with fail
 rw [HW.out]
 rw [← HBs.out, ← HBc.out]
 go_upto_region 3 with (first
  | (refine wpList_load_row rfl 24 _ rfl Bc rfl 24 X (0, 0) _ C0.out Tryz.underlying24 rfl IX.out ?_)
  | (go_at_call 36; refine (RS.out _).mono ?_; rintro e w1 ⟨rfl, b1⟩
     have B1 : Hid (Below W.heap.size W w1) := b1
     obtain ⟨G, hG⟩ : ∃ G, G = w1.heap.size := ⟨_, rfl⟩
     have HG : Hid _ := hG
     clear b1 hG)
  | (at_make; refine wpList_make_full _ rfl _ _ 47 rfl w1.heap.size 3 j0 _ 1 Tryz.under47 ji jz0 jz1 _ _ _ _ n rfl rfl rfl rfl (by rw [jz2]; omega) (by unfold maxLen; omega) (Nat.le_refl _) ?_
     intro w2 hown hgr
     rw [Nat.mul_one] at hown
     have B2 : Hid (Below w1.heap.size w1 w2) := (Below.refl _ _).grown hgr (Nat.le_refl _) (by simp)
     have H2 : Hid (w2.heap[w1.heap.size]? = some (.cells (i64s (GF 0)) 3 (0, 0))) := by show _ = _; rw [GF0.out]; exact made_i64 hown
     rw [← HG.out] at H2 ⊢
     clear hown hgr))
 have B3 : Hid (Below W.heap.size W w2) := B1.out.trans (B2.out.mono B1.out.size)
 have BW2 : Hid (Below w.heap.size w w2) := BE.out.trans (B3.out.mono BE.out.size)
 have GB : Hid (w.heap.size ≤ G ∧ W.heap.size ≤ G) := by
  have h1 := BE.out.size; have h2 := B1.out.size; have h3 := HG.out
  show _ ∧ _; omega
 have F2 : Hid (∀ U, But (fun k => k = G) w2 U → U.heap[Bc]? = some (.cells X 24 (0, 0)) ∧ U.heap[Bs]? = some (.cells Y 52 (0, 0)) ∧ Below w.heap.size w U) := fun U hU => by
  have h1 := GB.out
  have c2 := (B3.out.block _ (lt_of_heap C0.out)).trans C0.out
  have s2 := (B3.out.block _ (lt_of_heap S0.out)).trans S0.out
  refine ⟨(hU.block _ (lt_of_heap c2) (by have := lt_of_heap C0.out; omega)).trans c2, (hU.block _ (lt_of_heap s2) (by have := lt_of_heap S0.out; omega)).trans s2, ?_⟩
  exact ⟨hU.os.trans BW2.out.os, hU.tape.trans BW2.out.tape, hU.output.trans BW2.out.output, Nat.le_trans BW2.out.size hU.size, fun k hk => (hU.block k (Nat.lt_of_lt_of_le hk BW2.out.size) (by omega)).trans (BW2.out.block k hk)⟩
 clear ji jz0 jz1 jz2 RS B1 B2 B3 HW HBc HBs
 go_wp2
 go_loopw [9] (fun jv wr => ∃ j : Nat, j ≤ nb ∧ jv = .int .i64 j ∧ Hid (wr.heap[G]? = some (.cells (i64s (GF j)) 3 (0, 0))) ∧ Hid (But (fun k => k = G) w2 wr)) (fun jv _ => nb - (intOf jv).toNat)
 case atStart => exact ⟨0, by omega, rfl, H2.out, But.refl _ _⟩
 case round =>
  clear H2
  obtain ⟨j, hj, rfl, HL, UW⟩ := hrel
  have k9 : wr.cell? ⟨Bc, 9, none⟩ = some (.int .i64 (nb : Int)) := (cell_of_block (F2.out _ UW.out).1 9).trans XC.out.2.2.2.1
  by_cases hlt : j < nb
  · have KS6 : Hid (∀ U, Below wr.heap.size wr U → U.rangeAt Bc 0 X.toList ∧ U.cell? ⟨Bc, 14, none⟩ = some (.int .i64 sd) ∧ U.cell? ⟨Bs, 0, none⟩ = some (.int .i64 sI) ∧ U.cell? ⟨Bc, 9, none⟩ = some (.int .i64 (nb : Int))) := fun U h => by
     obtain ⟨f1, f2, _⟩ := F2.out U (UW.out.trans (But.below h))
     exact ⟨rng f1, (cell_of_block f1 _).trans XC.out.2.2.2.2.1, (cell_of_block f2 _).trans YC.out.1, (cell_of_block f1 _).trans XC.out.2.2.2.1⟩
    have KS8 : Hid (∀ U, Below wr.heap.size wr U → U.rangeAt Bc 0 X.toList ∧ U.cell? ⟨Bc, 1, none⟩ = some (.int .i64 (a0 : Int)) ∧ U.cell? ⟨Bc, 0, none⟩ = some (.int .i64 ((m : Int) + 1)) ∧ U.cell? ⟨Bc, 1 + (m + 1), none⟩ = some (.int .i64 (al : Int))) := fun U h => by
     obtain ⟨f1, f2, _⟩ := F2.out U (UW.out.trans (But.below h))
     exact ⟨rng f1, (cell_of_block f1 _).trans XC.out.2.1, (cell_of_block f1 _).trans XC.out.1, (cell_of_block f1 _).trans XC.out.2.2.1⟩
    have FB : Hid (∀ U, Below wr.heap.size wr U → U.heap[Bc]? = some (.cells X 24 (0, 0)) ∧ U.cell? ⟨Bs, 1, none⟩ = some vP ∧ Below w.heap.size w U) := fun U h => by
     obtain ⟨f1, f2, f3⟩ := F2.out U (UW.out.trans (But.below h))
     exact ⟨f1, (cell_of_block f2 _).trans YC.out.2, f3⟩
    have s6 := KS6.out wr (Below.refl _ _)
    have PK1 : Hid (∀ U, Calls Tryz.prog 74 #[.int .i64 sd, .int .i64 (ns : Int), .int .i64 (q + (j : Int))] U fun e w' => e = .returned (.int .i64 (pk j : Int)) ∧ Below U.heap.size U w') := PKc.out j hlt
    have pkl := PKL.out j
    have SA1 : Hid _ := SAc.out (pk j) pkl
    have SL1 : Hid _ := SLc.out (pk j)
    have GS1 : Hid (GF (j + 1) = ADDL (GF j) (SLOPES c P (XS c m s (pk j)) (YS c m s (pk j)) m)) := GFs.out j
    have SL2 : Hid _ := SLl.out j
    have SL3 : Hid _ := SLp.out j
    obtain ⟨xx, hxx⟩ : ∃ z, z = XS c m s (pk j) := ⟨_, rfl⟩
    obtain ⟨yy, hyy⟩ : ∃ z, z = YS c m s (pk j) := ⟨_, rfl⟩
    obtain ⟨SQ, hSQ⟩ : ∃ z, z = SLOPES c P (XS c m s (pk j)) (YS c m s (pk j)) m := ⟨_, rfl⟩
    obtain ⟨kj, hkj⟩ : ∃ z, z = pk j := ⟨_, rfl⟩
    simp only [← hSQ] at GS1 SL1 SL2 SL3
    simp only [← hxx, ← hyy] at SA1 SL1
    simp only [← hkj] at SA1 PK1
    have wr2 : IntKind.i64.wrap (q + (j : Int)) = q + (j : Int) := by rw [IntKind.wrap_i64]; omega
    have jl4 : (m : Int) + 1 < 4 := by omega
    have j1' : (0 : Int) ≤ (m : Int) + 1 := by omega
    clear hxx hyy hSQ hkj pkl k9
    go_upto_region 6 with fail
    refine wp_region_held_drew (S := fun w' => w'.rangeAt Bc 0 X.toList ∧ w'.cell? ⟨Bc, 14, none⟩ = some (.int .i64 sd) ∧ w'.cell? ⟨Bs, 0, none⟩ = some (.int .i64 sI) ∧ w'.cell? ⟨Bc, 9, none⟩ = some (.int .i64 (nb : Int))) (by kernel_rfl) s6 (fun hS => ?_)
    refine wpAnyH_take (i := 0) (oi := ⟨some 32, .fieldAddr 24 (.tmp 3) 11, 0, "train.go:322", #[], none⟩) (v := ?_) rfl (by kernel_rfl) (by kernel_rfl) (by kernel_rfl) (fun _ _ _ h => h) (Or.inl ⟨by kernel_rfl, ?_⟩) hS ?_
    rotate_left
    · intro w hSw; (try dsimp only at hSw); go_simp; (try with_reducible rfl)
    try go_frame
    refine wpAnyH_take (i := 1) (oi := ⟨some 33, .load 3 (.tmp 32), 3, "train.go:322", #[⟨0, .data⟩], none⟩) (v := ?_) rfl (by kernel_rfl) (by kernel_rfl) (by kernel_rfl) (fun _ _ _ h => h) (Or.inl ⟨by kernel_rfl, ?_⟩) hS ?_
    rotate_left
    · intro w hSw; (try dsimp only at hSw); go_simp; (try with_reducible rfl)
    try go_frame
    refine wpAnyH_take (i := 2) (oi := ⟨some 34, .load 24 (.tmp 3), 24, "train.go:322", #[], none⟩) (v := .agg X.toList.toArray) rfl (by kernel_rfl) (by kernel_rfl) (by kernel_rfl) (fun _ _ _ h => h) (yieldsIf_load_mid (by rfl) 24 _ rfl Bc 0 rfl X.toList _ (fun w h => h.1) Tryz.underlying24 rfl IXL.out) hS ?_
    rw [Array.toArray_toList]
    try go_frame
    refine wpAnyH_take (i := 3) (oi := ⟨some 35, .move (.tmp 1), 9, "train.go:322", #[], none⟩) (v := ?_) rfl (by kernel_rfl) (by kernel_rfl) (by kernel_rfl) (fun _ _ _ h => h) (Or.inl ⟨by kernel_rfl, ?_⟩) hS ?_
    rotate_left
    · intro w hSw; (try dsimp only at hSw); go_simp; (try with_reducible rfl)
    try go_frame
    refine wpAnyH_take (i := 5) (oi := ⟨some 37, .fieldAddr 52 (.tmp 5) 0, 0, "train.go:322", #[], none⟩) (v := ?_) rfl (by kernel_rfl) (by kernel_rfl) (by kernel_rfl) (fun _ _ _ h => h) (Or.inl ⟨by kernel_rfl, ?_⟩) hS ?_
    rotate_left
    · intro w hSw; (try dsimp only at hSw); go_simp; (try with_reducible rfl)
    try go_frame
    refine wpAnyH_take (i := 6) (oi := ⟨some 38, .load 3 (.tmp 37), 3, "train.go:322", #[⟨5, .data⟩], none⟩) (v := ?_) rfl (by kernel_rfl) (by kernel_rfl) (by kernel_rfl) (fun _ _ _ h => h) (Or.inl ⟨by kernel_rfl, ?_⟩) hS ?_
    rotate_left
    · intro w hSw; (try dsimp only at hSw); go_simp; (try with_reducible rfl)
    try go_frame
    refine wpAnyH_take (i := 7) (oi := ⟨some 39, .fieldAddr 24 (.tmp 3) 6, 0, "train.go:322", #[], none⟩) (v := ?_) rfl (by kernel_rfl) (by kernel_rfl) (by kernel_rfl) (fun _ _ _ h => h) (Or.inl ⟨by kernel_rfl, ?_⟩) hS ?_
    rotate_left
    · intro w hSw; (try dsimp only at hSw); go_simp; (try with_reducible rfl)
    try go_frame
    refine wpAnyH_take (i := 8) (oi := ⟨some 40, .load 3 (.tmp 39), 3, "train.go:322", #[⟨7, .data⟩], none⟩) (v := ?_) rfl (by kernel_rfl) (by kernel_rfl) (by kernel_rfl) (fun _ _ _ h => h) (Or.inl ⟨by kernel_rfl, ?_⟩) hS ?_
    rotate_left
    · intro w hSw; (try dsimp only at hSw); go_simp; (try with_reducible rfl)
    try go_frame
    refine wpAnyH_take (i := 9) (oi := ⟨some 41, .binOp .mul 3 (.tmp 38) (.tmp 40) 3, 3, "train.go:322", #[⟨6, .data⟩, ⟨8, .data⟩], none⟩) (v := ?_) rfl (by kernel_rfl) (by kernel_rfl) (by kernel_rfl) (fun _ _ _ h => h) (Or.inl ⟨by kernel_rfl, ?_⟩) hS ?_
    rotate_left
    · intro w hSw; (try dsimp only at hSw); go_simp; (try with_reducible rfl)
    try go_frame
    refine wpAnyH_take (i := 10) (oi := ⟨some 42, .move (.tmp 9), 3, "train.go:322", #[], none⟩) (v := ?_) rfl (by kernel_rfl) (by kernel_rfl) (by kernel_rfl) (fun _ _ _ h => h) (Or.inl ⟨by kernel_rfl, ?_⟩) hS ?_
    rotate_left
    · intro w hSw; (try dsimp only at hSw); go_simp; (try with_reducible rfl)
    try go_frame
    refine wpAnyH_take (i := 11) (oi := ⟨some 43, .binOp .add 3 (.tmp 41) (.tmp 42) 3, 3, "train.go:322", #[⟨9, .data⟩, ⟨10, .data⟩], none⟩) (v := ?_) rfl (by kernel_rfl) (by kernel_rfl) (by kernel_rfl) (fun _ _ _ h => h) (Or.inl ⟨by kernel_rfl, ?_⟩) hS ?_
    rotate_left
    · intro w hSw; (try dsimp only at hSw); go_simp; (try with_reducible rfl)
    try go_frame
    refine wpAnyH_ready (rs := [4]) (by kernel_rfl) (by simp) ?_
    refine AllReadyH.cons (o := ⟨some 36, .call { callee := .value (.func 35), args := #[.tmp 34, .tmp 35], argTypes := #[24, 9] }, 3, "train.go:322", #[⟨2, .data⟩, ⟨3, .data⟩], none⟩) rfl (fun K hK => ?_) AllReadyH.nil
    go_simp
    refine (SPc.out _).mono ?_
    rintro e w5 ⟨rfl, b5⟩
    have B5 : Hid (Below wr.heap.size wr w5) := ((Below.refl _ _).drew).trans b5
    clear b5 hS
    go_wp2_with fail
    refine hK.out _ _ (KS6.out _ B5.out) (fun hS => ?_)
    try go_frame
    clear hK K
    refine wpAnyH_ready (rs := [12]) (by kernel_rfl) (by simp) ?_
    refine AllReadyH.cons (o := ⟨some 44, .call { callee := .value (.func 74), args := #[.tmp 33, .tmp 36, .tmp 43], argTypes := #[3, 3, 3] }, 3, "train.go:322", #[⟨1, .data⟩, ⟨4, .data⟩, ⟨11, .data⟩, ⟨4, .chain⟩], none⟩) rfl (fun K hK => ?_) AllReadyH.nil
    go_simp
    refine (PK1.out _).mono ?_
    rintro e w6 ⟨rfl, b6⟩
    have B6 : Hid (Below wr.heap.size wr w6) := B5.out.trans (b6.mono B5.out.size)
    clear b6 hS
    go_wp2_with fail
    refine hK.out _ _ (KS6.out _ B6.out) (fun hS => ?_)
    try go_frame
    clear hK K
    refine wpAnyH_take (i := 13) (oi := ⟨some 10, .assign (.tmp 44), 3, "train.go:322", #[⟨12, .data⟩, ⟨12, .chain⟩, ⟨0, .phase⟩, ⟨1, .phase⟩, ⟨2, .phase⟩, ⟨3, .phase⟩, ⟨4, .phase⟩, ⟨5, .phase⟩, ⟨6, .phase⟩, ⟨7, .phase⟩, ⟨8, .phase⟩, ⟨9, .phase⟩, ⟨10, .phase⟩, ⟨11, .phase⟩, ⟨12, .phase⟩], none⟩) (v := ?_) rfl (by kernel_rfl) (by kernel_rfl) (by kernel_rfl) (fun _ _ _ h => h) (Or.inl ⟨by kernel_rfl, ?_⟩) hS ?_
    rotate_left
    · intro w hSw; (try dsimp only at hSw); go_simp; (try with_reducible rfl)
    try go_frame
    refine wpAnyH_done (by kernel_rfl) ?_ _
    clear hS s6 wr2
    have C6 : Hid _ := (FB.out _ B6.out).1
    have k1 := (KS8.out _ B6.out).2.1
    go_upto_region 8 with (first
     | (refine wpList_load_row rfl 24 _ rfl Bc rfl 24 X (0, 0) _ C6.out Tryz.underlying24 rfl IX.out ?_)
     | (go_at_call 75; refine (SA1.out _).1.mono ?_; rintro e w7 ⟨vx, rfl, ox, b7⟩
        have B7 : Hid (Below wr.heap.size wr w7) := B6.out.trans (b7.mono B6.out.size)
        have OX : Hid _ := ox
        clear b7 ox))
    clear k1
    have s8 := KS8.out _ B7.out
    refine wp_region_held_drew (S := fun w' => w'.rangeAt Bc 0 X.toList ∧ w'.cell? ⟨Bc, 1, none⟩ = some (.int .i64 (a0 : Int)) ∧ w'.cell? ⟨Bc, 0, none⟩ = some (.int .i64 ((m : Int) + 1)) ∧ w'.cell? ⟨Bc, 1 + (m + 1), none⟩ = some (.int .i64 (al : Int))) (by kernel_rfl) s8 (fun hS => ?_)
    refine wpAnyH_take (i := 0) (oi := ⟨some 52, .load 24 (.tmp 3), 24, "train.go:324", #[], none⟩) (v := .agg X.toList.toArray) rfl (by kernel_rfl) (by kernel_rfl) (by kernel_rfl) (fun _ _ _ h => h) (yieldsIf_load_mid (by rfl) 24 _ rfl Bc 0 rfl X.toList _ (fun w h => h.1) Tryz.underlying24 rfl IXL.out) hS ?_
    rw [Array.toArray_toList]
    try go_frame
    refine wpAnyH_take (i := 1) (oi := ⟨some 53, .move (.tmp 1), 9, "train.go:324", #[], none⟩) (v := ?_) rfl (by kernel_rfl) (by kernel_rfl) (by kernel_rfl) (fun _ _ _ h => h) (Or.inl ⟨by kernel_rfl, ?_⟩) hS ?_
    rotate_left
    · intro w hSw; (try dsimp only at hSw); go_simp; (try with_reducible rfl)
    try go_frame
    refine wpAnyH_take (i := 2) (oi := ⟨some 54, .move (.tmp 10), 3, "train.go:324", #[], none⟩) (v := ?_) rfl (by kernel_rfl) (by kernel_rfl) (by kernel_rfl) (fun _ _ _ h => h) (Or.inl ⟨by kernel_rfl, ?_⟩) hS ?_
    rotate_left
    · intro w hSw; (try dsimp only at hSw); go_simp; (try with_reducible rfl)
    try go_frame
    refine wpAnyH_take (i := 3) (oi := ⟨some 55, .fieldAddr 24 (.tmp 3) 1, 0, "train.go:324", #[], none⟩) (v := ?_) rfl (by kernel_rfl) (by kernel_rfl) (by kernel_rfl) (fun _ _ _ h => h) (Or.inl ⟨by kernel_rfl, ?_⟩) hS ?_
    rotate_left
    · intro w hSw; (try dsimp only at hSw); go_simp; (try with_reducible rfl)
    try go_frame
    refine wpAnyH_take (i := 4) (oi := ⟨some 56, .indexAddr 22 (.tmp 55) (.const (.int .i64 0)), 0, "train.go:324", #[⟨3, .data⟩], none⟩) (v := ?_) rfl (by kernel_rfl) (by kernel_rfl) (by kernel_rfl) (fun _ _ _ h => h) (Or.inl ⟨by kernel_rfl, ?_⟩) hS ?_
    rotate_left
    · intro w hSw; (try dsimp only at hSw); go_simp; (try with_reducible rfl)
    try go_frame
    refine wpAnyH_take (i := 5) (oi := ⟨some 57, .load 3 (.tmp 56), 3, "train.go:324", #[⟨4, .data⟩], none⟩) (v := ?_) rfl (by kernel_rfl) (by kernel_rfl) (by kernel_rfl) (fun _ _ _ h => h) (Or.inl ⟨by kernel_rfl, ?_⟩) hS ?_
    rotate_left
    · intro w hSw; (try dsimp only at hSw); go_simp; (try with_reducible rfl)
    try go_frame
    refine wpAnyH_take (i := 6) (oi := ⟨some 58, .fieldAddr 24 (.tmp 3) 0, 0, "train.go:324", #[], none⟩) (v := ?_) rfl (by kernel_rfl) (by kernel_rfl) (by kernel_rfl) (fun _ _ _ h => h) (Or.inl ⟨by kernel_rfl, ?_⟩) hS ?_
    rotate_left
    · intro w hSw; (try dsimp only at hSw); go_simp; (try with_reducible rfl)
    try go_frame
    refine wpAnyH_take (i := 7) (oi := ⟨some 59, .load 3 (.tmp 58), 3, "train.go:324", #[⟨6, .data⟩], none⟩) (v := ?_) rfl (by kernel_rfl) (by kernel_rfl) (by kernel_rfl) (fun _ _ _ h => h) (Or.inl ⟨by kernel_rfl, ?_⟩) hS ?_
    rotate_left
    · intro w hSw; (try dsimp only at hSw); go_simp; (try with_reducible rfl)
    try go_frame
    refine wpAnyH_take (i := 8) (oi := ⟨some 60, .fieldAddr 24 (.tmp 3) 1, 0, "train.go:324", #[], none⟩) (v := ?_) rfl (by kernel_rfl) (by kernel_rfl) (by kernel_rfl) (fun _ _ _ h => h) (Or.inl ⟨by kernel_rfl, ?_⟩) hS ?_
    rotate_left
    · intro w hSw; (try dsimp only at hSw); go_simp; (try with_reducible rfl)
    try go_frame
    refine wpAnyH_take (i := 9) (oi := ⟨some 61, .indexAddr 22 (.tmp 60) (.tmp 59), 0, "train.go:324", #[⟨8, .data⟩, ⟨7, .data⟩], none⟩) (v := ?_) rfl (by kernel_rfl) (by kernel_rfl) (by kernel_rfl) (fun _ _ _ h => h) (Or.inl ⟨by kernel_rfl, ?_⟩) hS ?_
    rotate_left
    · intro w hSw; (try dsimp only at hSw); go_simp; (try with_reducible rfl)
    try go_frame
    refine wpAnyH_take (i := 10) (oi := ⟨some 62, .load 3 (.tmp 61), 3, "train.go:324", #[⟨9, .data⟩], none⟩) (v := ?_) rfl (by kernel_rfl) (by kernel_rfl) (by kernel_rfl) (fun _ _ _ h => h) (Or.inl ⟨by kernel_rfl, ?_⟩) hS ?_
    rotate_left
    · intro w hSw; (try dsimp only at hSw); go_simp; (try with_reducible rfl)
    try go_frame
    refine wpAnyH_ready (rs := [11]) (by kernel_rfl) (by simp) ?_
    refine AllReadyH.cons (o := ⟨some 63, .call { callee := .value (.func 75), args := #[.tmp 52, .tmp 53, .tmp 54, .tmp 57, .tmp 62], argTypes := #[24, 9, 3, 3, 3] }, 47, "train.go:324", #[⟨0, .data⟩, ⟨1, .data⟩, ⟨2, .data⟩, ⟨5, .data⟩, ⟨10, .data⟩], none⟩) rfl (fun K hK => ?_) AllReadyH.nil
    go_simp
    refine (SA1.out _).2.mono ?_
    rintro e w8 ⟨vy, rfl, oy, b8⟩
    have b8' : Below w7.heap.size w7 w8 := ((Below.refl _ _).drew).trans b8
    have B8 : Hid (Below wr.heap.size wr w8) := B7.out.trans (b8'.mono B7.out.size)
    have OY : Hid _ := oy
    have OX8 : Hid _ := owns_below OX.out b8'
    clear b8 b8' oy hS
    go_wp2_with fail
    refine hK.out _ _ (KS8.out _ B8.out) (fun hS => ?_)
    try go_frame
    clear hK K
    refine wpAnyH_take (i := 12) (oi := ⟨some 12, .assign (.tmp 63), 47, "train.go:324", #[⟨11, .data⟩, ⟨11, .chain⟩, ⟨0, .phase⟩, ⟨1, .phase⟩, ⟨2, .phase⟩, ⟨3, .phase⟩, ⟨4, .phase⟩, ⟨5, .phase⟩, ⟨6, .phase⟩, ⟨7, .phase⟩, ⟨8, .phase⟩, ⟨9, .phase⟩, ⟨10, .phase⟩, ⟨11, .phase⟩], none⟩) (v := ?_) rfl (by kernel_rfl) (by kernel_rfl) (by kernel_rfl) (fun _ _ _ h => h) (Or.inl ⟨by kernel_rfl, ?_⟩) hS ?_
    rotate_left
    · intro w hSw; (try dsimp only at hSw); go_simp; (try with_reducible rfl)
    try go_frame
    refine wpAnyH_done (by kernel_rfl) ?_ _
    clear hS s8
    have C8 : Hid _ := (FB.out _ B8.out).1
    have k2 := (FB.out _ B8.out).2.1
    have SLX : Hid (Calls Tryz.prog 76 #[.agg X, vP, vx, vy] w8 fun e w' => ∃ v, e = .returned v ∧ OutI w' w8.heap.size v SQ ∧ Below w8.heap.size w8 w') := SL1.out vx vy _ _ w8 (FB.out _ B8.out).2.2 OX8.out OY.out
    go_upto_region 10 with (first
     | (refine wpList_load_row rfl 24 _ rfl Bc rfl 24 X (0, 0) _ C8.out Tryz.underlying24 rfl IX.out ?_)
     | (go_at_call 76; refine SLX.out.mono ?_; rintro e w9 ⟨vl, rfl, ol, b9⟩
        have B9 : Hid (Below wr.heap.size wr w9) := B8.out.trans (b9.mono B8.out.size)
        have OL : Hid _ := ol
        clear b9 ol))
    clear k2
    obtain ⟨la, lc, hvl, hlc⟩ := row_at OL.out
    rw [SL2.out] at hvl hlc
    subst hvl
    have LC : Hid _ := hlc
    have G9 : Hid (w9.heap[G]? = some (.cells (i64s (GF j)) 3 (0, 0))) := (B9.out.block _ (lt_of_heap HL.out)).trans HL.out
    have U9 : Hid (But (fun k => k = G) w2 w9) := UW.out.trans (But.below B9.out)
    have LNE : Hid (∀ g', la = some ⟨g', 0, none⟩ → g' ≠ G) := fun g' e hg => by
     subst e
     have h1 := (World.ownsRow.lt OL.out g' rfl).1
     have h2 := lt_of_heap HL.out
     have h3 := B8.out.size
     omega
    clear hlc OL SLX OX OX8 OY B5 B6 B7 C6 C8 KS6 KS8 FB SA1 SL1 PK1
    go_wp2
    go_loopw [14] (fun iv wz => ∃ i : Nat, i ≤ n ∧ iv = .int .i64 i ∧ ∃ l : List Int, Hid (l.length = n) ∧ Hid (∀ k, k < i → l.getD k 0 = ADD ((GF j).getD k 0) (SQ.getD k 0)) ∧ Hid (∀ k, i ≤ k → l.getD k 0 = (GF j).getD k 0) ∧ Hid (wz.heap[G]? = some (.cells (i64s l) 3 (0, 0))) ∧ Hid (But (fun k => k = G) w9 wz)) (fun iv _ => n - (intOf iv).toNat)
    case atStart => exact ⟨0, by omega, rfl, GF j, GFl.out j, fun k hk => absurd hk (by omega), fun _ _ => rfl, G9.out, But.refl _ _⟩
    case round =>
     obtain ⟨i, hi, rfl, l, LL, LI, LJ, LH, LU⟩ := hrel
     by_cases hil : i < n
     · obtain ⟨gl, rfl, gll, glc⟩ := LC.out (by omega)
       have gne := LNE.out gl rfl
       have GN : Hid _ := gne
       have GLL : Hid _ := gll
       have e1 : wr.cell? ⟨gl, i, none⟩ = some (.int .i64 (SQ.getD i 0)) := (LU.out.cell gll gne i).trans (glc i hil)
       have ai : wr.cell? ⟨G, i, none⟩ = some (.int .i64 ((GF j).getD i 0)) := by rw [cell_of_block LH.out, i64s_at l i (by rw [LL.out]; exact hil), LJ.out i (Nat.le_refl _)]
       have gb := pats_at (GFp.out j) i
       have sb := pats_at SL3.out i
       obtain ⟨gv, hgv⟩ : ∃ v, v = (GF j).getD i 0 := ⟨_, rfl⟩
       obtain ⟨sv, hsv⟩ : ∃ v, v = SQ.getD i 0 := ⟨_, rfl⟩
       have GVv : Hid _ := hgv
       have SVv : Hid _ := hsv
       rw [← hgv] at ai gb
       rw [← hsv] at e1 sb
       have AD : Hid (∀ U, Calls Tryz.prog 45 #[.int .i64 gv, .int .i64 sv] U fun e w' => e = .returned (.int .i64 (ADD gv sv)) ∧ Below U.heap.size U w') := fun U => radd_any gv sv U gb.1 gb.2 sb.1 sb.2
       have KL : Hid (∀ U, But (fun k => k = G) wr U → U.cell? ⟨gl, i, none⟩ = some (.int .i64 sv)) := fun U h => (h.cell (Nat.lt_of_lt_of_le GLL.out LU.out.size) GN.out i).trans e1
       have il : (i : Int) < (n : Int) := by omega
       have i0 : (0 : Int) ≤ (i : Int) := by omega
       clear hgv hsv gll glc gne
       go_upto_region 13 with fail
       refine wp_region_held_drew (S := fun w' => w'.cell? ⟨gl, i, none⟩ = some (.int .i64 sv)) (by kernel_rfl) e1 (fun hS => ?_)
       refine wpAnyH_take (i := 0) (oi := ⟨some 75, .move (.tmp 8), 47, "train.go:327", #[], none⟩) (v := ?_) rfl (by kernel_rfl) (by kernel_rfl) (by kernel_rfl) (fun _ _ _ h => h) (Or.inl ⟨by kernel_rfl, ?_⟩) hS ?_
       rotate_left
       · intro w hSw; (try dsimp only at hSw); go_simp; (try with_reducible rfl)
       try go_frame
       refine wpAnyH_take (i := 1) (oi := ⟨some 76, .move (.tmp 14), 3, "train.go:327", #[], none⟩) (v := ?_) rfl (by kernel_rfl) (by kernel_rfl) (by kernel_rfl) (fun _ _ _ h => h) (Or.inl ⟨by kernel_rfl, ?_⟩) hS ?_
       rotate_left
       · intro w hSw; (try dsimp only at hSw); go_simp; (try with_reducible rfl)
       try go_frame
       refine wpAnyH_take (i := 2) (oi := ⟨some 77, .move (.tmp 8), 47, "train.go:327", #[], none⟩) (v := ?_) rfl (by kernel_rfl) (by kernel_rfl) (by kernel_rfl) (fun _ _ _ h => h) (Or.inl ⟨by kernel_rfl, ?_⟩) hS ?_
       rotate_left
       · intro w hSw; (try dsimp only at hSw); go_simp; (try with_reducible rfl)
       try go_frame
       refine wpAnyH_take (i := 3) (oi := ⟨some 78, .move (.tmp 14), 3, "train.go:327", #[], none⟩) (v := ?_) rfl (by kernel_rfl) (by kernel_rfl) (by kernel_rfl) (fun _ _ _ h => h) (Or.inl ⟨by kernel_rfl, ?_⟩) hS ?_
       rotate_left
       · intro w hSw; (try dsimp only at hSw); go_simp; (try with_reducible rfl)
       try go_frame
       refine wpAnyH_take (i := 4) (oi := ⟨some 79, .indexAddr 47 (.tmp 77) (.tmp 78), 0, "train.go:327", #[⟨2, .data⟩, ⟨3, .data⟩], none⟩) (v := ?_) rfl (by kernel_rfl) (by kernel_rfl) (by kernel_rfl) (fun _ _ _ h => h) (Or.inl ⟨by kernel_rfl, ?_⟩) hS ?_
       rotate_left
       · intro w hSw; (try dsimp only at hSw); go_simp; (try with_reducible rfl)
       try go_frame
       refine wpAnyH_take (i := 6) (oi := ⟨some 81, .move (.tmp 13), 47, "train.go:327", #[], none⟩) (v := ?_) rfl (by kernel_rfl) (by kernel_rfl) (by kernel_rfl) (fun _ _ _ h => h) (Or.inl ⟨by kernel_rfl, ?_⟩) hS ?_
       rotate_left
       · intro w hSw; (try dsimp only at hSw); go_simp; (try with_reducible rfl)
       try go_frame
       refine wpAnyH_take (i := 7) (oi := ⟨some 82, .move (.tmp 14), 3, "train.go:327", #[], none⟩) (v := ?_) rfl (by kernel_rfl) (by kernel_rfl) (by kernel_rfl) (fun _ _ _ h => h) (Or.inl ⟨by kernel_rfl, ?_⟩) hS ?_
       rotate_left
       · intro w hSw; (try dsimp only at hSw); go_simp; (try with_reducible rfl)
       try go_frame
       refine wpAnyH_take (i := 8) (oi := ⟨some 83, .indexAddr 47 (.tmp 81) (.tmp 82), 0, "train.go:327", #[⟨6, .data⟩, ⟨7, .data⟩], none⟩) (v := ?_) rfl (by kernel_rfl) (by kernel_rfl) (by kernel_rfl) (fun _ _ _ h => h) (Or.inl ⟨by kernel_rfl, ?_⟩) hS ?_
       rotate_left
       · intro w hSw; (try dsimp only at hSw); go_simp; (try with_reducible rfl)
       try go_frame
       refine wpAnyH_take (i := 9) (oi := ⟨some 84, .load 3 (.tmp 83), 3, "train.go:327", #[⟨8, .data⟩], none⟩) (v := ?_) rfl (by kernel_rfl) (by kernel_rfl) (by kernel_rfl) (fun _ _ _ h => h) (Or.inl ⟨by kernel_rfl, ?_⟩) hS ?_
       rotate_left
       · intro w hSw; (try dsimp only at hSw); go_simp; (try with_reducible rfl)
       try go_frame
       refine wpAnyH_ready (rs := [5]) (by kernel_rfl) (by simp) ?_
       refine AllReadyH.cons (o := ⟨some 80, .load 3 (.tmp 79), 3, "train.go:327", #[⟨4, .data⟩], none⟩) rfl (fun K hK => ?_) AllReadyH.nil
       go_simp
       refine hK.out _ _ hS (fun hS => ?_)
       try go_frame
       clear hK K
       refine wpAnyH_ready (rs := [10]) (by kernel_rfl) (by simp) ?_
       refine AllReadyH.cons (o := ⟨some 85, .call { callee := .value (.func 45), args := #[.tmp 80, .tmp 84], argTypes := #[3, 3] }, 3, "train.go:327", #[⟨5, .data⟩, ⟨9, .data⟩], none⟩) rfl (fun K hK => ?_) AllReadyH.nil
       go_simp
       refine (AD.out _).mono ?_
       rintro e x1 ⟨rfl, c1⟩
       have X1 : Hid (Below wr.heap.size wr x1) := ((Below.refl _ _).drew).trans c1
       have H1 : Hid (x1.heap[G]? = some (.cells (i64s l) 3 (0, 0))) := (X1.out.block _ (lt_of_heap LH.out)).trans LH.out
       have p1 : x1.cell? ⟨G, i, none⟩ = some (.int .i64 gv) := (X1.out.cell (p := ⟨G, i, none⟩) (lt_of_heap LH.out)).trans ai
       have z1 : x1.frozen? ⟨G, i, none⟩ = false := unfrozen_of_block H1.out _
       clear c1 hS
       go_wp2_with fail
       refine hK.out _ _ (KL.out _ (But.below X1.out)) (fun hS => ?_)
       try go_frame
       clear hK K
       refine wpAnyH_take (i := 11) (oi := ⟨some 86, .indexAddr 47 (.tmp 75) (.tmp 76), 0, "train.go:327", #[⟨0, .data⟩, ⟨1, .data⟩, ⟨0, .phase⟩, ⟨1, .phase⟩, ⟨2, .phase⟩, ⟨3, .phase⟩, ⟨4, .phase⟩, ⟨5, .phase⟩, ⟨6, .phase⟩, ⟨7, .phase⟩, ⟨8, .phase⟩, ⟨9, .phase⟩, ⟨10, .phase⟩], none⟩) (v := ?_) rfl (by kernel_rfl) (by kernel_rfl) (by kernel_rfl) (fun _ _ _ h => h) (Or.inl ⟨by kernel_rfl, ?_⟩) hS ?_
       rotate_left
       · intro w hSw; (try dsimp only at hSw); go_simp; (try with_reducible rfl)
       try go_frame
       refine wpAnyH_ready (rs := [12]) (by kernel_rfl) (by simp) ?_
       refine AllReadyH.cons (o := ⟨none, .store 3 (.tmp 86) (.tmp 85), 0, "train.go:327", #[⟨11, .data⟩, ⟨10, .data⟩, ⟨10, .chain⟩, ⟨0, .phase⟩, ⟨1, .phase⟩, ⟨2, .phase⟩, ⟨3, .phase⟩, ⟨4, .phase⟩, ⟨5, .phase⟩, ⟨6, .phase⟩, ⟨7, .phase⟩, ⟨8, .phase⟩, ⟨9, .phase⟩, ⟨10, .phase⟩], none⟩) rfl (fun K hK => ?_) AllReadyH.nil
       go_simp
       refine hK.out _ _ (KL.out _ ((But.below X1.out).trans (But.set x1 G i _ rfl))) (fun hS => ?_)
       try go_frame
       clear hK K
       refine wpAnyH_done (by kernel_rfl) ?_ _
       clear hS p1 z1 ai e1
       go_wp2
       go_roundw
       case rel =>
        refine ⟨i + 1, by omega, by go_num, l.set i (ADD gv sv), ?_, fun k hk => ?_, fun k hk => ?_, ?_, (LU.out.trans (But.below X1.out)).trans (But.set _ G i _ rfl)⟩
        · show _ = _; rw [List.length_set]; exact LL.out
        · rw [getD_set]
          by_cases e : i = k
          · rw [if_pos ⟨e, by rw [LL.out]; exact hil⟩, GVv.out, SVv.out, e]
          · rw [if_neg (fun h => e h.1)]; exact LI.out k (by omega)
        · rw [getD_set, if_neg (fun h => by omega)]; exact LJ.out k (by omega)
        · show _ = _; rw [heap_set _ G i _ _ 3 _ H1.out, i64s_set]
       case measure => simp [intOf]; omega
     · have hie : n = i := by omega
       have R : Hid (wr.heap[G]? = some (.cells (i64s (GF (j + 1))) 3 (0, 0))) := by
        show _ = _
        rw [LH.out, GS1.out]
        unfold ADDL
        rw [GFl.out j, list_of l n _ LL.out fun k hk => LI.out k (by omega)]
       clear hie
       go_wp2
       go_roundw
       case rel => exact ⟨j + 1, by omega, by go_num, R.out, U9.out.trans LU.out⟩
       case measure => simp [intOf]; omega
  · have hje : nb = j := by omega
    subst hje
    obtain ⟨fi, hfi⟩ : ∃ x, x = FROMI (nb : Int) := ⟨_, rfl⟩
    have bfi : 0 ≤ fi ∧ fi < 4294967296 := by rw [hfi]; exact FROMI_bd _
    have FIc : Hid (∀ U, Calls Tryz.prog 40 #[.int .i64 (nb : Int)] U fun e w' => e = .returned (.int .i64 fi) ∧ w' = U) := fun U => by rw [hfi]; exact rfromInt_any _ U (by omega) (by omega)
    obtain ⟨by_, hby⟩ : ∃ x, x = DIV 1065353216 fi := ⟨_, rfl⟩
    have bby : 0 ≤ by_ ∧ by_ < 4294967296 := by rw [hby]; exact DIV_bd _ _
    have DVc : Hid (∀ U, Calls Tryz.prog 46 #[.int .i64 1065353216, .int .i64 fi] U fun e w' => e = .returned (.int .i64 by_) ∧ Below U.heap.size U w') := fun U => by rw [hby]; exact rdiv_any _ _ U (by omega) (by omega) bfi.1 bfi.2
    obtain ⟨L0, hL0⟩ : ∃ x, x = GF nb := ⟨_, rfl⟩
    obtain ⟨L1, hL1⟩ : ∃ x, x = SCL L0 by_ := ⟨_, rfl⟩
    have p0 : Hid (pats L0) := by rw [hL0]; exact GFp.out nb
    have l0 : Hid (L0.length = n) := by show _ = _; rw [hL0]; exact GFl.out nb
    have p1 : Hid (pats L1) := by rw [hL1]; exact SCL_pats _ _
    have l1 : Hid (L1.length = n) := by show _ = _; rw [hL1, SCL_len]; exact l0.out
    have L1i : Hid (∀ k, k < n → L1.getD k 0 = MUL (L0.getD k 0) by_) := fun k hk => by
     rw [hL1]; unfold SCL
     rw [List.getD_eq_getElem?_getD, List.getElem?_map, List.getElem?_range (by rw [l0.out]; exact hk)]; rfl
    obtain ⟨sqn, hsqn⟩ : ∃ x, x = SQRT (SQS L1 n) := ⟨_, rfl⟩
    have bsq : 0 ≤ sqn ∧ sqn < 4294967296 := by rw [hsqn]; exact SQRT_bd _ (SQS_bd L1 n)
    have SQc : Hid (∀ U, Calls Tryz.prog 47 #[.int .i64 (SQS L1 n)] U fun e w' => e = .returned (.int .i64 sqn) ∧ Below U.heap.size U w') := fun U => by rw [hsqn]; exact rsqrt_any _ U (SQS_bd L1 n).1 (SQS_bd L1 n).2
    have LS1 : Hid (∀ U, Calls Tryz.prog 77 #[.int .i64 0, .int .i64 cl] U fun e w' => e = .returned (.bool (LESS 0 cl)) ∧ Below U.heap.size U w') := fun U => rless_any _ _ U (by omega) (by omega) bcl.1 bcl.2
    have LS2 : Hid (∀ U, Calls Tryz.prog 77 #[.int .i64 cl, .int .i64 sqn] U fun e w' => e = .returned (.bool (LESS cl sqn)) ∧ Below U.heap.size U w') := fun U => rless_any _ _ U bcl.1 bcl.2 bsq.1 bsq.2
    obtain ⟨by2, hby2⟩ : ∃ x, x = DIV cl sqn := ⟨_, rfl⟩
    have bby2 : 0 ≤ by2 ∧ by2 < 4294967296 := by rw [hby2]; exact DIV_bd _ _
    have DV2 : Hid (∀ U, Calls Tryz.prog 46 #[.int .i64 cl, .int .i64 sqn] U fun e w' => e = .returned (.int .i64 by2) ∧ Below U.heap.size U w') := fun U => by rw [hby2]; exact rdiv_any _ _ U bcl.1 bcl.2 bsq.1 bsq.2
    have CE : Hid (CLP (SCL (GF nb) (DIV 1065353216 (FROMI (nb : Int)))) cl = if LESS 0 cl = true then (if LESS cl sqn = true then SCL L1 by2 else L1) else L1) := by
     show _ = _
     rw [← hfi, ← hby, ← hL0, ← hL1]
     unfold CLP
     rw [l1.out, ← hsqn, ← hby2]
    have k19 : Hid (∀ U, But (fun k => k = G) w2 U → U.cell? ⟨Bc, 19, none⟩ = some (.int .i64 cl)) := fun U h => (cell_of_block (F2.out U h).1 19).trans XC.out.2.2.2.2.2
    rw [← hL0] at HL
    clear hfi hby hL0 hL1 hsqn hby2
    go_upto_region 15 with (first
     | (go_at_call 40; refine (FIc.out _).mono ?_; rintro e x0 ⟨rfl, hw'⟩; subst x0)
     | (go_at_call 46; refine (DVc.out _).mono ?_; rintro e w5 ⟨rfl, b5⟩
        have G5 : Hid (w5.heap[G]? = some (.cells (i64s L0) 3 (0, 0))) := (b5.block _ (lt_of_heap HL.out)).trans HL.out
        have U5 : Hid (But (fun k => k = G) w2 w5) := UW.out.trans (But.below b5)
        clear b5))
    clear k9 HL UW
    go_wp2
    go_loopw [16, 17] (fun sv iv wz => ∃ i : Nat, i ≤ n ∧ iv = .int .i64 i ∧ sv = .int .i64 (SQS L1 i) ∧ ∃ l : List Int, Hid (l.length = n) ∧ Hid (∀ k, k < i → l.getD k 0 = L1.getD k 0) ∧ Hid (∀ k, i ≤ k → l.getD k 0 = L0.getD k 0) ∧ Hid (wz.heap[G]? = some (.cells (i64s l) 3 (0, 0))) ∧ Hid (But (fun k => k = G) w2 wz)) (fun _ iv _ => n - (intOf iv).toNat)
    case atStart => exact ⟨0, by omega, rfl, rfl, L0, l0.out, fun k hk => absurd hk (by omega), fun _ _ => rfl, G5.out, U5.out⟩
    case round =>
     clear G5 U5
     obtain ⟨i, hi, rfl, rfl, l, LL, LI, LJ, LH, LU⟩ := hrel
     by_cases hil : i < n
     · have ai : wr.cell? ⟨G, i, none⟩ = some (.int .i64 (L0.getD i 0)) := by rw [cell_of_block LH.out, i64s_at l i (by rw [LL.out]; exact hil), LJ.out i (Nat.le_refl _)]
       have gb := pats_at p0.out i
       have e1 : Hid _ := L1i.out i hil
       have bs := SQS_bd L1 i
       have SS : Hid (SQS L1 (i + 1) = ADD (SQS L1 i) (MUL (L1.getD i 0) (L1.getD i 0))) := rfl
       have b1' := pats_at p1.out i
       obtain ⟨gv, hgv⟩ : ∃ v, v = L0.getD i 0 := ⟨_, rfl⟩
       obtain ⟨fv, hfv⟩ : ∃ v, v = L1.getD i 0 := ⟨_, rfl⟩
       obtain ⟨sv, hsv⟩ : ∃ v, v = SQS L1 i := ⟨_, rfl⟩
       have FV : Hid _ := hfv
       rw [← hgv] at ai gb e1
       rw [← hfv] at e1 SS b1'
       rw [← hsv] at bs SS ⊢
       have M1 : Hid (∀ U, Calls Tryz.prog 39 #[.int .i64 gv, .int .i64 by_] U fun e w' => e = .returned (.int .i64 fv) ∧ Below U.heap.size U w') := fun U => by rw [e1.out]; exact rmul_any _ _ U gb.1 gb.2 bby.1 bby.2
       have mb := MUL_bd' fv fv
       have M2 : Hid (∀ U, Calls Tryz.prog 39 #[.int .i64 fv, .int .i64 fv] U fun e w' => e = .returned (.int .i64 (MUL fv fv)) ∧ Below U.heap.size U w') := fun U => rmul_any _ _ U b1'.1 b1'.2 b1'.1 b1'.2
       have A1 : Hid (∀ U, Calls Tryz.prog 45 #[.int .i64 sv, .int .i64 (MUL fv fv)] U fun e w' => e = .returned (.int .i64 (SQS L1 (i + 1))) ∧ Below U.heap.size U w') := fun U => by rw [SS.out]; exact radd_any _ _ U bs.1 bs.2 mb.1 mb.2
       obtain ⟨sv2, hsv2⟩ : ∃ v, v = SQS L1 (i + 1) := ⟨_, rfl⟩
       have SV2 : Hid _ := hsv2
       rw [← hsv2] at A1
       obtain ⟨mv, hmv⟩ : ∃ v, v = MUL fv fv := ⟨_, rfl⟩
       rw [← hmv] at M2 A1
       have il : (i : Int) < (n : Int) := by omega
       have i0 : (0 : Int) ≤ (i : Int) := by omega
       clear hgv hfv hsv hsv2 hmv e1 SS mb
       go_upto_region 20 with (first
        | (go_at_call 39; refine (M1.out _).mono ?_; rintro e x1 ⟨rfl, c1⟩
           have X1 : Hid (Below wr.heap.size wr x1) := c1
           have H1 : Hid (x1.heap[G]? = some (.cells (i64s l) 3 (0, 0))) := (c1.block _ (lt_of_heap LH.out)).trans LH.out
           have q1 : x1.cell? ⟨G, i, none⟩ = some (.int .i64 gv) := (c1.cell (p := ⟨G, i, none⟩) (lt_of_heap LH.out)).trans ai
           have z1 : x1.frozen? ⟨G, i, none⟩ = false := unfrozen_of_block H1.out _
           clear c1))
       obtain ⟨x2, hx2⟩ : ∃ x, x = x1.setCell ⟨G, i, none⟩ (.int .i64 fv) := ⟨_, rfl⟩
       have H2' : Hid (x2.heap[G]? = some (.cells (i64s (l.set i fv)) 3 (0, 0))) := by show _ = _; rw [hx2, heap_set _ G i _ _ 3 _ H1.out, i64s_set]
       have U2' : Hid (But (fun k => k = G) w2 x2) := by show But _ _ _; rw [hx2]; exact (LU.out.trans (But.below X1.out)).trans (But.set _ G i _ rfl)
       have c2 : x2.cell? ⟨G, i, none⟩ = some (.int .i64 fv) := by rw [cell_of_block H2'.out, i64s_at _ i (by rw [List.length_set, LL.out]; exact hil), getD_set, if_pos ⟨rfl, by rw [LL.out]; exact hil⟩]
       rw [← hx2]
       clear hx2 q1 z1 ai
       go_region_held3 (fun w' => w'.cell? ⟨G, i, none⟩ = some (.int .i64 fv)) (first | exact c2 | exact d3 | exact d4) (first
        | (go_at_call 39; refine (M2.out _).mono ?_; rintro e x3 ⟨rfl, c3⟩
           have X3 : Hid (Below x2.heap.size x2 x3) := ((Below.refl _ _).drew).trans c3
           have d3 : x3.cell? ⟨G, i, none⟩ = some (.int .i64 fv) := (X3.out.cell (p := ⟨G, i, none⟩) (lt_of_heap H2'.out)).trans c2
           clear c3)
        | (go_at_call 45; refine (A1.out _).mono ?_; rintro e x4 ⟨rfl, c4⟩
           have X4 : Hid (Below x2.heap.size x2 x4) := X3.out.trans (c4.mono X3.out.size)
           have d4 : x4.cell? ⟨G, i, none⟩ = some (.int .i64 fv) := (X4.out.cell (p := ⟨G, i, none⟩) (lt_of_heap H2'.out)).trans c2
           clear c4))
       go_wp2
       go_roundw
       case rel =>
        refine ⟨i + 1, by omega, by go_num, by rw [SV2.out], l.set i fv, ?_, fun k hk => ?_, fun k hk => ?_, (X4.out.block _ (lt_of_heap H2'.out)).trans H2'.out, U2'.out.trans (But.below X4.out)⟩
        · show _ = _; rw [List.length_set]; exact LL.out
        · rw [getD_set]
          by_cases e : i = k
          · rw [if_pos ⟨e, by rw [LL.out]; exact hil⟩, FV.out, e]
          · rw [if_neg (fun h => e h.1)]; exact LI.out k (by omega)
        · rw [getD_set, if_neg (fun h => by omega)]; exact LJ.out k (by omega)
       case measure => simp [intOf]; omega
     · have hie : n = i := by omega
       subst hie
       have el : l = L1 := by rw [list_of l n (fun k => L1.getD k 0) LL.out (fun k hk => LI.out k hk), ← list_of L1 n (fun k => L1.getD k 0) l1.out (fun _ _ => rfl)]
       have H1 : Hid (wr.heap[G]? = some (.cells (i64s L1) 3 (0, 0))) := by rw [← el]; exact LH.out
       have FIN : Hid (∀ U (L : List Int), But (fun k => k = G) w2 U → U.heap[G]? = some (.cells (i64s L) 3 (0, 0)) → L.length = n → OutI U w.heap.size (.slice (some ⟨G, 0, none⟩) n n) L ∧ Below w.heap.size w U) := fun U L hU hG hl => by
        have h := out_of_block hG GB.out.1 (by rw [hl]; unfold maxLen; omega)
        rw [hl] at h
        exact ⟨h, (F2.out U hU).2.2⟩
       obtain ⟨sv, hsv⟩ : ∃ v, v = SQS L1 n := ⟨_, rfl⟩
       rw [← hsv] at SQc ⊢
       obtain ⟨q1, hq1⟩ : ∃ x, x = LESS 0 cl := ⟨_, rfl⟩
       obtain ⟨q2, hq2⟩ : ∃ x, x = LESS cl sqn := ⟨_, rfl⟩
       rw [← hq1] at LS1 CE
       rw [← hq2] at LS2 CE
       clear hsv hq1 hq2 el LH
       go_upto_region 24 with (first
        | (go_at_call 47; refine (SQc.out _).mono ?_; rintro e x1 ⟨rfl, c1⟩
           have X1 : Hid (Below wr.heap.size wr x1) := c1
           have f1 := k19.out x1 (LU.out.trans (But.below c1))
           clear c1)
        | (go_at_call_of 77 (Value.int IntKind.i64 0); refine (LS1.out _).mono ?_; rintro e x2 ⟨rfl, c2⟩
           have X2 : Hid (Below wr.heap.size wr x2) := X1.out.trans (c2.mono X1.out.size)
           have f2 := k19.out x2 (LU.out.trans (But.below X2.out))
           clear c2)
        | (go_at_call_of 77 (Value.int IntKind.i64 sqn); refine (LS2.out _).mono ?_; rintro e x3 ⟨rfl, c3⟩
           have X3 : Hid (Below wr.heap.size wr x3) := X2.out.trans (c3.mono X2.out.size)
           have f3 := k19.out x3 (LU.out.trans (But.below X3.out))
           clear c3))
       have U3 : Hid (But (fun k => k = G) w2 x3) := LU.out.trans (But.below X3.out)
       have H3 : Hid (x3.heap[G]? = some (.cells (i64s L1) 3 (0, 0))) := (X3.out.block _ (lt_of_heap H1.out)).trans H1.out
       clear f1 f2 X1 X2 X3 H1 LU
       cases q1
       · have R : Hid _ := CE.out
         clear CE f3
         go_wp2
         go_ret
         have h := FIN.out x3 L1 U3.out H3.out l1.out
         refine ⟨_, rfl, ?_, h.2⟩
         rw [R.out]; exact h.1
       · cases q2
         · have R : Hid _ := CE.out
           clear CE f3
           go_wp2
           go_ret
           have h := FIN.out x3 L1 U3.out H3.out l1.out
           refine ⟨_, rfl, ?_, h.2⟩
           rw [R.out]; exact h.1
         · have R : Hid _ := CE.out
           clear CE
           go_upto_region 26 with (first
            | (go_at_call 46; refine (DV2.out _).mono ?_; rintro e x4 ⟨rfl, c4⟩
               have U4 : Hid (But (fun k => k = G) w2 x4) := U3.out.trans (But.below c4)
               have H4 : Hid (x4.heap[G]? = some (.cells (i64s L1) 3 (0, 0))) := (c4.block _ (lt_of_heap H3.out)).trans H3.out
               clear c4))
           clear f3 U3 H3
           go_wp2
           go_loopw [21] (fun iv wz => ∃ i : Nat, i ≤ n ∧ iv = .int .i64 i ∧ ∃ l : List Int, Hid (l.length = n) ∧ Hid (∀ k, k < i → l.getD k 0 = MUL (L1.getD k 0) by2) ∧ Hid (∀ k, i ≤ k → l.getD k 0 = L1.getD k 0) ∧ Hid (wz.heap[G]? = some (.cells (i64s l) 3 (0, 0))) ∧ Hid (But (fun k => k = G) w2 wz)) (fun iv _ => n - (intOf iv).toNat)
           case atStart => exact ⟨0, by omega, rfl, L1, l1.out, fun k hk => absurd hk (by omega), fun _ _ => rfl, H4.out, U4.out⟩
           case round =>
            clear H4 U4
            obtain ⟨i, hi, rfl, l, LL, LI, LJ, LH, LU⟩ := hrel
            by_cases hil : i < n
            · have ai : wr.cell? ⟨G, i, none⟩ = some (.int .i64 (L1.getD i 0)) := by rw [cell_of_block LH.out, i64s_at l i (by rw [LL.out]; exact hil), LJ.out i (Nat.le_refl _)]
              have gb := pats_at p1.out i
              obtain ⟨gv, hgv⟩ : ∃ v, v = L1.getD i 0 := ⟨_, rfl⟩
              have GV : Hid _ := hgv
              rw [← hgv] at ai gb
              have M1 : Hid (∀ U, Calls Tryz.prog 39 #[.int .i64 gv, .int .i64 by2] U fun e w' => e = .returned (.int .i64 (MUL gv by2)) ∧ Below U.heap.size U w') := fun U => rmul_any _ _ U gb.1 gb.2 bby2.1 bby2.2
              have il : (i : Int) < (n : Int) := by omega
              have i0 : (0 : Int) ≤ (i : Int) := by omega
              clear hgv
              go_wp2_with (first
               | (go_at_call 39; refine (M1.out _).mono ?_; rintro e x1 ⟨rfl, c1⟩
                  have X1 : Hid (Below wr.heap.size wr x1) := c1
                  have H1 : Hid (x1.heap[G]? = some (.cells (i64s l) 3 (0, 0))) := (c1.block _ (lt_of_heap LH.out)).trans LH.out
                  have q1 : x1.cell? ⟨G, i, none⟩ = some (.int .i64 gv) := (c1.cell (p := ⟨G, i, none⟩) (lt_of_heap LH.out)).trans ai
                  have z1 : x1.frozen? ⟨G, i, none⟩ = false := unfrozen_of_block H1.out _
                  clear c1))
              go_roundw
              case rel =>
               refine ⟨i + 1, by omega, by go_num, l.set i (MUL gv by2), ?_, fun k hk => ?_, fun k hk => ?_, ?_, (LU.out.trans (But.below X1.out)).trans (But.set _ G i _ rfl)⟩
               · show _ = _; rw [List.length_set]; exact LL.out
               · rw [getD_set]
                 by_cases e : i = k
                 · rw [if_pos ⟨e, by rw [LL.out]; exact hil⟩, GV.out, e]
                 · rw [if_neg (fun h => e h.1)]; exact LI.out k (by omega)
               · rw [getD_set, if_neg (fun h => by omega)]; exact LJ.out k (by omega)
               · show _ = _; rw [heap_set _ G i _ _ 3 _ H1.out, i64s_set]
              case measure => simp [intOf]; omega
            · have hie : n = i := by omega
              subst hie
              have el : l = SCL L1 by2 := by unfold SCL; rw [l1.out]; exact list_of l n _ LL.out (fun k hk => LI.out k hk)
              have H5 : Hid (wr.heap[G]? = some (.cells (i64s (SCL L1 by2)) 3 (0, 0))) := by rw [← el]; exact LH.out
              clear el
              go_wp2
              go_ret
              have h := FIN.out wr (SCL L1 by2) LU.out H5.out (by rw [SCL_len]; exact l1.out)
              refine ⟨_, rfl, ?_, h.2⟩
              rw [R.out]; exact h.1
end Go.Proofs.YtoihkljlekknkaaGreat
