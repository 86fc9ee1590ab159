/-
  The state at first, by the document. Conditions: the configuration is one; the seed is a pattern.
-/
import Derived.Test.YtoihkljlekknkaaGreatAd1
import Derived.Test.YtoihkljlekknkaaGreatAp26
namespace Go.Proofs.YtoihkljlekknkaaGreat
open Go.RowKit
open Go.Joins (cell_of_block unfrozen_of_block)
set_option linter.unusedVariables false
set_option linter.unusedSimpArgs false
theorem PARS_succ (seed : Int) (i : Nat) : PARS seed (i + 1) = PARS seed i ++ [PAR0 seed i] := by unfold PARS; rw [List.range_succ, List.map_append]; rfl
theorem PARS_len (seed : Int) (i : Nat) : (PARS seed i).length = i := by simp [PARS]
theorem apart_nil (v : Value) : Apart (.slice none 0 0) v := fun a h _ => by simp [Value.ownBlock] at h
theorem nil_own (w : World) (base : Nat) : OutI w base (.slice none 0 0) [] := World.ownsRow_nil _ _ _ _
set_option maxHeartbeats 8000000 in
set_option maxRecDepth 100000 in
theorem first_any (c : Cf) (m : Nat) (w : World) (c2 : c.ok2) (hL : c.L = (m : Int) + 1) (m3 : m < 3) (wb : WB c) :
 Calls Tryz.prog 17 #[.agg (rcs c)] w fun e w' => ∃ vP vV vM, e = .returned (.agg (D3c 0 vP vV vM)) ∧ OutI w' w.heap.size vP (PARS c.seed (sn c (m + 1))) ∧ OutI w' w.heap.size vV (List.replicate (sn c (m + 1)) 0) ∧ OutI w' w.heap.size vM (List.replicate (sn c (m + 1)) 0) ∧ Below w.heap.size w w' := by
 obtain ⟨X, hX⟩ : ∃ X, X = rcs c := ⟨_, rfl⟩
 obtain ⟨n, hn⟩ : ∃ x, x = sn c (m + 1) := ⟨_, rfl⟩
 have n60 : n ≤ 60 := by rw [hn]; exact sn_le wb (m + 1) (by omega)
 obtain ⟨sd, hsd⟩ : ∃ x, x = c.seed := ⟨_, rfl⟩
 have sb : 0 ≤ sd ∧ sd < 4294967296 := by rw [hsd]; exact c2.seed
 have RS : Hid (∀ V, Calls Tryz.prog 36 #[.agg X] V fun e w' => e = .returned (.int .i64 (n : Int)) ∧ Below V.heap.size V w') := fun V => by
  have h := rsize_any c wb (by omega) V
  rw [show c.L.toNat + 1 = (m + 1) + 1 by omega, sn_eq wb (m + 1) (by omega), ← hn] at h
  rw [hX]; exact h
 have IX : Hid ((Tryz.prog.info? 24).map (·.size) = some X.size) := by rw [hX]; exact infoC c
 have x14 : X[14]? = some (.int .i64 sd) := by rw [hX, hsd]; rfl
 obtain ⟨W, hW, b0, b1, bel, hws⟩ := two_blocks w X (D3c 0 (.slice none 0 0) (.slice none 0 0) (.slice none 0 0)) 24 52
 obtain ⟨W2, hW2⟩ : ∃ V, V = W.alloc (.cells (D3c 0 (.slice none 0 0) (.slice none 0 0) (.slice none 0 0)) 52) := ⟨_, rfl⟩
 obtain ⟨Bc, hBc⟩ : ∃ B, B = w.heap.size := ⟨_, rfl⟩
 obtain ⟨R, hR⟩ : ∃ B, B = w.heap.size + 1 := ⟨_, rfl⟩
 obtain ⟨B, hB⟩ : ∃ B, B = W.heap.size := ⟨_, rfl⟩
 obtain ⟨base, hbase⟩ : ∃ b, b = W2.heap.size := ⟨_, rfl⟩
 have s2 : W2.heap.size = W.heap.size + 1 := by rw [hW2]; simp
 have a2 : Below W.heap.size W W2 := by rw [hW2]; exact (Below.refl _ _).alloc (Nat.le_refl _) _
 have C2 : Hid (W2.heap[Bc]? = some (.cells X 24 (0, 0))) := by rw [hBc]; exact (a2.block _ (lt_of_heap b0)).trans b0
 have R2 : Hid (W2.heap[R]? = some (.cells (D3c 0 (.slice none 0 0) (.slice none 0 0) (.slice none 0 0)) 52 (0, 0))) := by rw [hR]; exact (a2.block _ (lt_of_heap b1)).trans b1
 have D2 : Hid (D3 B base 0 (.slice none 0 0) (.slice none 0 0) (.slice none 0 0) [] [] [] W2) := ⟨by rw [hW2, hB]; exact heap_alloc_new W _, nil_own _ _, nil_own _ _, nil_own _ _, apart_nil _, apart_nil _, apart_nil _, by omega, by omega⟩
 have BE : Hid (Below w.heap.size w W2) := bel.trans (a2.mono bel.size)
 have HW : Hid _ := hW
 have HW2 : Hid _ := hW2
 have HBc : Hid _ := hBc
 have HR : Hid _ := hR
 have HB : Hid (B = w.heap.size + 1 + 1) := by show _ = _; omega
 have wB : Hid (w.heap.size ≤ B ∧ w.heap.size ≤ base ∧ R < B ∧ Bc < R ∧ w.heap.size ≤ R) := by show _ ∧ _; omega
 have X14 : Hid _ := x14
 obtain ⟨j0, ji, jz0, jz1, jz2⟩ := info_three Tryz.infoI
 have INF : Hid (_ ∧ _ ∧ _ ∧ _) := ⟨ji, jz0, jz1, jz2⟩
 have SBD : Hid _ := sb
 rw [← hX, ← hn, ← hsd]
 clear hX hn hsd hW b0 b1 bel hws hW2 hBc hR hB hbase s2 a2 x14 ji jz0 jz1 jz2 wb c2 hL
 go_enter Tryz.func17, Tryz.ntmps17
 go_upto_region 2 with fail
 rw [show (w.alloc (.cells X 24)).alloc (.cells #[.int .i64 0, .slice none 0 0, .slice none 0 0, .slice none 0 0] 52) = W from HW.out]
 rw [show W.alloc (.cells #[.int .i64 0, .slice none 0 0, .slice none 0 0, .slice none 0 0] 52) = W2 from HW2.out.symm]
 rw [← HB.out, ← HR.out, ← HBc.out]
 go_wp2
 go_loopw [4] (fun iv wr => ∃ (i : Nat) (vP vV vM : Value), i ≤ n ∧ iv = .int .i64 i ∧ Hid (D3 B base 0 vP vV vM (PARS sd i) (List.replicate i 0) (List.replicate i 0) wr) ∧ Hid (wr.heap[Bc]? = some (.cells X 24 (0, 0))) ∧ Hid (wr.heap[R]? = some (.cells (D3c 0 (.slice none 0 0) (.slice none 0 0) (.slice none 0 0)) 52 (0, 0))) ∧ Hid (Below w.heap.size w wr)) (fun iv _ => n - (intOf iv).toNat)
 case atStart => exact ⟨0, _, _, _, by omega, rfl, D2.out, C2.out, R2.out, BE.out⟩
 case round =>
  clear D2 C2 R2 BE
  obtain ⟨i, vP, vV, vM, hi, rfl, HD, HC, HRr, BW⟩ := hrel
  by_cases hlt : i < n
  · go_upto_region 5 with (first
     | (refine wpList_load_row rfl 24 _ rfl Bc rfl 24 X (0, 0) _ HC.out Tryz.underlying24 rfl IX.out ?_)
     | (go_at_call 36; refine (RS.out _).mono ?_; rintro e w1 ⟨rfl, b1⟩
        have D1 : Hid _ := HD.out.below b1
        have C1 : Hid (w1.heap[Bc]? = some (.cells X 24 (0, 0))) := (b1.block _ (lt_of_heap HC.out)).trans HC.out
        have R1 : Hid (w1.heap[R]? = some (.cells (D3c 0 (.slice none 0 0) (.slice none 0 0) (.slice none 0 0)) 52 (0, 0))) := (b1.block _ (lt_of_heap HRr.out)).trans HRr.out
        have B1 : Hid (Below w.heap.size w w1) := BW.out.trans (b1.mono BW.out.size)
        clear b1))
    have c14 : w1.cell? ⟨Bc, 14, none⟩ = some (.int .i64 sd) := (cell_of_block C1.out 14).trans X14.out
    have tb := TM_bd 2654435769 ((i : Int) + 1)
    have TMc : Hid (∀ V, Calls Tryz.prog 38 #[.int .i64 2654435769, .int .i64 ((i : Int) + 1)] V fun e w' => e = .returned (.int .i64 (TM 2654435769 ((i : Int) + 1))) ∧ w' = V) := fun V => times_any _ _ V (by omega) (by omega) (by omega) (by omega)
    have PE : Hid (PAR0 sd i = MUL (FROMI (MIX ((sd + TM 2654435769 ((i : Int) + 1)) % 4294967296) % 255 - 127)) 998244352) := by
     show _ = _
     unfold PAR0 TM
     rw [show (sd + 2654435769 * ((i : Int) + 1) % 4294967296) % 4294967296 = (sd + 2654435769 * ((i : Int) + 1)) % 4294967296 by omega]
    obtain ⟨a1, ha1⟩ : ∃ x, x = TM 2654435769 ((i : Int) + 1) := ⟨_, rfl⟩
    rw [← ha1] at tb TMc PE
    have sb := SBD.out
    have wi : IntKind.i64.wrap ((i : Int) + 1) = (i : Int) + 1 := by rw [IntKind.wrap_i64]; omega
    obtain ⟨q, hq⟩ : ∃ x, x = sd + a1 := ⟨_, rfl⟩
    rw [← hq] at PE
    have wq : IntKind.i64.wrap (sd + a1) = q := by rw [hq, IntKind.wrap_i64]; omega
    have qb : 0 ≤ q := by omega
    have mb := MIX_bd (q % 4294967296) (by omega) (by omega)
    have MXc : Hid (∀ V, Calls Tryz.prog 37 #[.int .i64 (q % 4294967296)] V fun e w' => e = .returned (.int .i64 (MIX (q % 4294967296))) ∧ w' = V) := fun V => rmix_any _ V (by omega) (by omega)
    obtain ⟨mx, hmx⟩ : ∃ x, x = MIX (q % 4294967296) := ⟨_, rfl⟩
    rw [← hmx] at MXc PE mb
    clear ha1 hq hmx
    refine wp_region_held_drew (S := fun w' => w'.cell? ⟨Bc, 14, none⟩ = some (.int .i64 sd)) (by kernel_rfl) c14 (fun hS => ?_)
    refine wpAnyH_take (i := 0) (oi := ⟨some 13, .fieldAddr 24 (.tmp 1) 11, 0, "train.go:180", #[], none⟩) (v := ?_) rfl (by kernel_rfl) (by kernel_rfl) (by kernel_rfl) (fun _ _ _ h => h) (Or.inl ⟨by kernel_rfl, ?_⟩) hS ?_
    rotate_left
    · intro w hSw; (try dsimp only at hSw); go_simp; (try with_reducible rfl)
    try go_frame
    refine wpAnyH_take (i := 1) (oi := ⟨some 14, .load 3 (.tmp 13), 3, "train.go:180", #[⟨0, .data⟩], none⟩) (v := ?_) rfl (by kernel_rfl) (by kernel_rfl) (by kernel_rfl) (fun _ _ _ h => h) (Or.inl ⟨by kernel_rfl, ?_⟩) hS ?_
    rotate_left
    · intro w hSw; (try dsimp only at hSw); go_simp; (try with_reducible rfl)
    try go_frame
    refine wpAnyH_take (i := 2) (oi := ⟨some 15, .move (.tmp 4), 3, "train.go:180", #[], none⟩) (v := ?_) rfl (by kernel_rfl) (by kernel_rfl) (by kernel_rfl) (fun _ _ _ h => h) (Or.inl ⟨by kernel_rfl, ?_⟩) hS ?_
    rotate_left
    · intro w hSw; (try dsimp only at hSw); go_simp; (try with_reducible rfl)
    try go_frame
    refine wpAnyH_take (i := 3) (oi := ⟨some 16, .binOp .add 3 (.tmp 15) (.const (.int .i64 1)) 3, 3, "train.go:180", #[⟨2, .data⟩], none⟩) (v := ?_) rfl (by kernel_rfl) (by kernel_rfl) (by kernel_rfl) (fun _ _ _ h => h) (Or.inl ⟨by kernel_rfl, ?_⟩) hS ?_
    rotate_left
    · intro w hSw; (try dsimp only at hSw); go_simp; (try with_reducible rfl)
    try go_frame
    refine wpAnyH_ready (rs := [4]) (by kernel_rfl) (by simp) ?_
    refine AllReadyH.cons (o := ⟨some 17, .call { callee := .value (.func 38), args := #[.const (.int .i64 2654435769), .tmp 16], argTypes := #[3, 3] }, 3, "train.go:180", #[⟨3, .data⟩], none⟩) rfl (fun K hK => ?_) AllReadyH.nil
    go_simp
    refine (TMc.out _).mono ?_
    rintro e w5 ⟨rfl, hw'⟩
    subst w5
    go_wp2_with fail
    refine hK.out _ _ hS (fun hS => ?_)
    try go_frame
    clear hK K
    refine wpAnyH_take (i := 5) (oi := ⟨some 18, .binOp .add 3 (.tmp 14) (.tmp 17) 3, 3, "train.go:180", #[⟨1, .data⟩, ⟨4, .data⟩], none⟩) (v := ?_) rfl (by kernel_rfl) (by kernel_rfl) (by kernel_rfl) (fun _ _ _ h => h) (Or.inl ⟨by kernel_rfl, ?_⟩) hS ?_
    rotate_left
    · intro w hSw; (try dsimp only at hSw); go_simp; (try with_reducible rfl)
    try go_frame
    refine wpAnyH_take (i := 6) (oi := ⟨some 19, .binOp .rem 3 (.tmp 18) (.const (.int .i64 4294967296)) 3, 3, "train.go:180", #[⟨5, .data⟩], none⟩) (v := .int .i64 (q % 4294967296)) rfl (by kernel_rfl) (by kernel_rfl) (by kernel_rfl) (fun _ _ _ h => h) (Or.inl ⟨by kernel_rfl, ?_⟩) hS ?_
    · intro w hSw
      clear hSw hS HD HC HRr BW D1 C1 R1 B1 PE TMc MXc c14 tb sb
      go_simp
      exact Int.tmod_eq_emod_of_nonneg qb
    try go_frame
    refine wpAnyH_ready (rs := [7]) (by kernel_rfl) (by simp) ?_
    refine AllReadyH.cons (o := ⟨some 20, .call { callee := .value (.func 37), args := #[.tmp 19], argTypes := #[3] }, 3, "train.go:180", #[⟨6, .data⟩, ⟨4, .chain⟩], none⟩) rfl (fun K hK => ?_) AllReadyH.nil
    go_simp
    refine (MXc.out _).mono ?_
    rintro e w6 ⟨rfl, hw'⟩
    subst w6
    go_wp2_with fail
    refine hK.out _ _ hS (fun hS => ?_)
    try go_frame
    clear hK K
    refine wpAnyH_take (i := 8) (oi := ⟨some 21, .binOp .rem 3 (.tmp 20) (.const (.int .i64 255)) 3, 3, "train.go:180", #[⟨7, .data⟩], none⟩) (v := .int .i64 (mx % 255)) rfl (by kernel_rfl) (by kernel_rfl) (by kernel_rfl) (fun _ _ _ h => h) (Or.inl ⟨by kernel_rfl, ?_⟩) hS ?_
    · intro w hSw
      clear hSw hS HD HC HRr BW D1 C1 R1 B1 PE TMc MXc c14 tb sb
      go_simp
      exact Int.tmod_eq_emod_of_nonneg mb.1
    try go_frame
    refine wpAnyH_take (i := 9) (oi := ⟨some 5, .assign (.tmp 21), 3, "train.go:180", #[⟨8, .data⟩, ⟨7, .chain⟩, ⟨0, .phase⟩, ⟨1, .phase⟩, ⟨2, .phase⟩, ⟨3, .phase⟩, ⟨4, .phase⟩, ⟨5, .phase⟩, ⟨6, .phase⟩, ⟨7, .phase⟩, ⟨8, .phase⟩], none⟩) (v := ?_) rfl (by kernel_rfl) (by kernel_rfl) (by kernel_rfl) (fun _ _ _ h => h) (Or.inl ⟨by kernel_rfl, ?_⟩) hS ?_
    rotate_left
    · intro w hSw; (try dsimp only at hSw); go_simp; (try with_reducible rfl)
    try go_frame
    refine wpAnyH_done (by kernel_rfl) ?_ _
    clear hS c14 tb sb wi wq TMc MXc qb
    obtain ⟨hh, hhh⟩ : ∃ x, x = mx % 255 := ⟨_, rfl⟩
    have hb : 0 ≤ hh ∧ hh < 255 := by omega
    rw [← hhh] at PE ⊢
    clear hhh mb
    have FIc : Hid (∀ V, Calls Tryz.prog 40 #[.int .i64 (hh - 127)] V fun e w' => e = .returned (.int .i64 (FROMI (hh - 127))) ∧ w' = V) := fun V => rfromInt_any _ V (by omega) (by omega)
    have fb := FROMI_bd (hh - 127)
    have MLc : Hid (∀ V, Calls Tryz.prog 39 #[.int .i64 (FROMI (hh - 127)), .int .i64 998244352] V fun e w' => e = .returned (.int .i64 (PAR0 sd i)) ∧ Below V.heap.size V w') := fun V => by rw [PE.out]; exact rmul_any _ _ V fb.1 fb.2 (by omega) (by omega)
    obtain ⟨fr, hfr⟩ : ∃ x, x = FROMI (hh - 127) := ⟨_, rfl⟩
    rw [← hfr] at FIc MLc
    obtain ⟨p, hp⟩ : ∃ x, x = PAR0 sd i := ⟨_, rfl⟩
    rw [← hp] at MLc
    have HP : Hid _ := hp
    clear hfr hp fb PE
    obtain ⟨lp, hlp⟩ : ∃ x, x = PARS sd i := ⟨_, rfl⟩
    obtain ⟨lz, hlz⟩ : ∃ x : List Int, x = List.replicate i 0 := ⟨_, rfl⟩
    have lpl : lp.length = i := by rw [hlp]; exact PARS_len sd i
    have lzl : lz.length = i := by rw [hlz]; exact List.length_replicate
    have SP : Hid (PARS sd (i + 1) = lp ++ [p]) := by show _ = _; rw [PARS_succ, ← hlp, HP.out]
    have SZ' : Hid (List.replicate (i + 1) (0 : Int) = lz ++ [0]) := by show _ = _; rw [List.replicate_succ', ← hlz]
    rw [← hlp, ← hlz] at D1
    have lp3 : Hid (lp.length + 1 ≤ maxLen) := by show _ ≤ _; unfold maxLen; omega
    have lp4 : Hid ((lp.length + 1) * 8 ≤ 140737488355328) := by show _ ≤ _; omega
    have lz3 : Hid (lz.length + 1 ≤ maxLen) := by show _ ≤ _; unfold maxLen; omega
    have lz4 : Hid ((lz.length + 1) * 8 ≤ 140737488355328) := by show _ ≤ _; omega
    obtain ⟨pa, pc, hvP, -⟩ := row_at D1.out.oP
    obtain ⟨va, vc, hvV, -⟩ := row_at D1.out.oV
    obtain ⟨ma, mc, hvM, -⟩ := row_at D1.out.oM
    subst hvP hvV hvM
    clear hlp hlz lpl lzl
    go_upto_region 7 with (first
     | (go_at_call 40; refine (FIc.out _).mono ?_; rintro e w5 ⟨rfl, hw'⟩; subst w5)
     | (go_at_call 39; refine (MLc.out _).mono ?_; rintro e w2 ⟨rfl, b2⟩
        have b2' : Below w1.heap.size w1 w2 := ((Below.refl _ _).drew).trans b2
        have D2 : Hid _ := (D1.out.below b2').alloc (.cells #[.int .i64 p] 3)
        have n2 : w2.cell? ⟨B, 1, none⟩ = some (.slice pa lp.length pc) := cell_of_block (D1.out.below b2').blk 1
        have B2 : Hid (Below w.heap.size w (w2.alloc (.cells #[.int .i64 p] 3))) := (B1.out.trans (b2'.mono B1.out.size)).alloc (Nat.le_trans B1.out.size b2'.size) _
        have C2 : Hid (w2.heap[Bc]? = some (.cells X 24 (0, 0))) := (b2'.block _ (lt_of_heap C1.out)).trans C1.out
        have R2 : Hid (w2.heap[R]? = some (.cells (D3c 0 (.slice none 0 0) (.slice none 0 0) (.slice none 0 0)) 52 (0, 0))) := (b2'.block _ (lt_of_heap R1.out)).trans R1.out
        clear b2 b2'))
    go_upto_region 8 with (first
     | (at_builtin; refine wpList_append_lies _ rfl _ _ 47 rfl base 3 j0 _ 1 8 Tryz.underlying47 INF.out.1 INF.out.2.1 INF.out.2.2.1 INF.out.2.2.2 rfl (by decide) _ _ _ rfl D2.out.oP ⟨w2.heap.size, 0, none⟩ 1 1 [.int .i64 p] rfl rfl (one_cell3 _ _ rfl _) (one_c _ rfl) (by decide) lp3.out lp4.out D2.out.bs _ rfl ?_
        intro g1 cap1 w10 hown hgrow hat hlt2
        have O1 : Hid (OutI w10 base (.slice (some ⟨g1, 0, none⟩) (lp.length + 1) cap1) (lp ++ [p])) := by
         show World.ownsRow _ _ _ _ _ _ _
         rw [← ints_app, List.length_append]; exact hown
        have kB := blk_grown D2.out.oP D2.out.bB D2.out.bs D2.out.blk hgrow
        have kc : w10.cell? ⟨B, 1, none⟩ = some (.slice pa lp.length pc) := cell_of_block kB 1
        have kz : w10.frozen? ⟨B, 1, none⟩ = false := unfrozen_of_block kB _
        have E1 : Hid _ := D2.out.app1 O1.out hgrow hat
        have BB1 : Hid (Below w.heap.size w (w10.setCell ⟨B, 1, none⟩ (.slice (some ⟨g1, 0, none⟩) (lp.length + 1) cap1))) := below_app B2.out D2.out.oP wB.out.1 D2.out.bB hgrow
        have low : ∀ b ob, b < B → w2.heap[b]? = some ob → (w10.setCell ⟨B, 1, none⟩ (.slice (some ⟨g1, 0, none⟩) (lp.length + 1) cap1)).heap[b]? = some ob := fun b ob hb hob => by
         have hl : b < w2.heap.size := (Array.getElem?_eq_some_iff.1 hob).1
         rw [heap_set_ne w10 B 1 b _ (by omega), hgrow.block b (by simp; omega) (fun q => by have h1 := (World.ownsRow.lt D2.out.oP b q.symm).1; have h2 := D2.out.bB; omega), Below.heap_alloc _ _ _ hl]
         exact hob
        have CC1 : Hid ((w10.setCell ⟨B, 1, none⟩ (.slice (some ⟨g1, 0, none⟩) (lp.length + 1) cap1)).heap[Bc]? = some (.cells X 24 (0, 0))) := low Bc _ (by have h1 := wB.out; omega) C2.out
        have RR1 : Hid ((w10.setCell ⟨B, 1, none⟩ (.slice (some ⟨g1, 0, none⟩) (lp.length + 1) cap1)).heap[R]? = some (.cells (D3c 0 (.slice none 0 0) (.slice none 0 0) (.slice none 0 0)) 52 (0, 0))) := low R _ (by have h1 := wB.out; omega) R2.out
        clear hown hgrow hat hlt2 kB low))
    obtain ⟨U1, hU⟩ : ∃ U, U = w10.setCell ⟨B, 1, none⟩ (.slice (some ⟨g1, 0, none⟩) (lp.length + 1) cap1) := ⟨_, rfl⟩
    rw [← hU] at E1 BB1 CC1 RR1 ⊢
    clear hU kc kz
    clear n2 D2 B2
    have D4 : Hid _ := E1.out.alloc (.cells #[.int .i64 0] 3)
    have n3 : U1.cell? ⟨B, 2, none⟩ = some (.slice va lz.length vc) := cell_of_block E1.out.blk 2
    have B4 : Hid (Below w.heap.size w (U1.alloc (.cells #[.int .i64 0] 3))) := BB1.out.alloc BB1.out.size _
    go_upto_region 9 with (first
     | (at_builtin; refine wpList_append_lies _ rfl _ _ 47 rfl base 3 j0 _ 1 8 Tryz.underlying47 INF.out.1 INF.out.2.1 INF.out.2.2.1 INF.out.2.2.2 rfl (by decide) _ _ _ rfl D4.out.oV ⟨U1.heap.size, 0, none⟩ 1 1 [.int .i64 0] rfl rfl (one_cell3 _ _ rfl _) (one_c _ rfl) (by decide) lz3.out lz4.out D4.out.bs _ rfl ?_
        intro g2 cap2 w20 hown hgrow hat hlt2
        have O2 : Hid (OutI w20 base (.slice (some ⟨g2, 0, none⟩) (lz.length + 1) cap2) (lz ++ [0])) := by
         show World.ownsRow _ _ _ _ _ _ _
         rw [← ints_app, List.length_append]; exact hown
        have kB := blk_grown D4.out.oV D4.out.bB D4.out.bs D4.out.blk hgrow
        have kc : w20.cell? ⟨B, 2, none⟩ = some (.slice va lz.length vc) := cell_of_block kB 2
        have kz : w20.frozen? ⟨B, 2, none⟩ = false := unfrozen_of_block kB _
        have E2 : Hid _ := D4.out.app2 O2.out hgrow hat
        have BB2 : Hid (Below w.heap.size w (w20.setCell ⟨B, 2, none⟩ (.slice (some ⟨g2, 0, none⟩) (lz.length + 1) cap2))) := below_app B4.out D4.out.oV wB.out.1 D4.out.bB hgrow
        have low : ∀ b ob, b < B → U1.heap[b]? = some ob → (w20.setCell ⟨B, 2, none⟩ (.slice (some ⟨g2, 0, none⟩) (lz.length + 1) cap2)).heap[b]? = some ob := fun b ob hb hob => by
         have hl : b < U1.heap.size := (Array.getElem?_eq_some_iff.1 hob).1
         rw [heap_set_ne w20 B 2 b _ (by omega), hgrow.block b (by simp; omega) (fun q => by have h1 := (World.ownsRow.lt D4.out.oV b q.symm).1; have h2 := D4.out.bB; omega), Below.heap_alloc _ _ _ hl]
         exact hob
        have CC2 : Hid ((w20.setCell ⟨B, 2, none⟩ (.slice (some ⟨g2, 0, none⟩) (lz.length + 1) cap2)).heap[Bc]? = some (.cells X 24 (0, 0))) := low Bc _ (by have h1 := wB.out; omega) CC1.out
        have RR2 : Hid ((w20.setCell ⟨B, 2, none⟩ (.slice (some ⟨g2, 0, none⟩) (lz.length + 1) cap2)).heap[R]? = some (.cells (D3c 0 (.slice none 0 0) (.slice none 0 0) (.slice none 0 0)) 52 (0, 0))) := low R _ (by have h1 := wB.out; omega) RR1.out
        clear hown hgrow hat hlt2 kB low))
    obtain ⟨U2, hU⟩ : ∃ U, U = w20.setCell ⟨B, 2, none⟩ (.slice (some ⟨g2, 0, none⟩) (lz.length + 1) cap2) := ⟨_, rfl⟩
    rw [← hU] at E2 BB2 CC2 RR2 ⊢
    clear hU kc kz
    clear n3 D4 B4
    have D5 : Hid _ := E2.out.alloc (.cells #[.int .i64 0] 3)
    have n4 : U2.cell? ⟨B, 3, none⟩ = some (.slice ma lz.length mc) := cell_of_block E2.out.blk 3
    have B5 : Hid (Below w.heap.size w (U2.alloc (.cells #[.int .i64 0] 3))) := BB2.out.alloc BB2.out.size _
    go_wp2_with (first
     | (at_builtin; refine wpList_append_lies _ rfl _ _ 47 rfl base 3 j0 _ 1 8 Tryz.underlying47 INF.out.1 INF.out.2.1 INF.out.2.2.1 INF.out.2.2.2 rfl (by decide) _ _ _ rfl D5.out.oM ⟨U2.heap.size, 0, none⟩ 1 1 [.int .i64 0] rfl rfl (one_cell3 _ _ rfl _) (one_c _ rfl) (by decide) lz3.out lz4.out D5.out.bs _ rfl ?_
        intro g3 cap3 w30 hown hgrow hat hlt2
        have O3 : Hid (OutI w30 base (.slice (some ⟨g3, 0, none⟩) (lz.length + 1) cap3) (lz ++ [0])) := by
         show World.ownsRow _ _ _ _ _ _ _
         rw [← ints_app, List.length_append]; exact hown
        have kB := blk_grown D5.out.oM D5.out.bB D5.out.bs D5.out.blk hgrow
        have kc : w30.cell? ⟨B, 3, none⟩ = some (.slice ma lz.length mc) := cell_of_block kB 3
        have kz : w30.frozen? ⟨B, 3, none⟩ = false := unfrozen_of_block kB _
        have E3 : Hid _ := D5.out.app3 O3.out hgrow hat
        have BB3 : Hid (Below w.heap.size w (w30.setCell ⟨B, 3, none⟩ (.slice (some ⟨g3, 0, none⟩) (lz.length + 1) cap3))) := below_app B5.out D5.out.oM wB.out.1 D5.out.bB hgrow
        have low : ∀ b ob, b < B → U2.heap[b]? = some ob → (w30.setCell ⟨B, 3, none⟩ (.slice (some ⟨g3, 0, none⟩) (lz.length + 1) cap3)).heap[b]? = some ob := fun b ob hb hob => by
         have hl : b < U2.heap.size := (Array.getElem?_eq_some_iff.1 hob).1
         rw [heap_set_ne w30 B 3 b _ (by omega), hgrow.block b (by simp; omega) (fun q => by have h1 := (World.ownsRow.lt D5.out.oM b q.symm).1; have h2 := D5.out.bB; omega), Below.heap_alloc _ _ _ hl]
         exact hob
        have CC3 : Hid ((w30.setCell ⟨B, 3, none⟩ (.slice (some ⟨g3, 0, none⟩) (lz.length + 1) cap3)).heap[Bc]? = some (.cells X 24 (0, 0))) := low Bc _ (by have h1 := wB.out; omega) CC2.out
        have RR3 : Hid ((w30.setCell ⟨B, 3, none⟩ (.slice (some ⟨g3, 0, none⟩) (lz.length + 1) cap3)).heap[R]? = some (.cells (D3c 0 (.slice none 0 0) (.slice none 0 0) (.slice none 0 0)) 52 (0, 0))) := low R _ (by have h1 := wB.out; omega) RR2.out
        clear hown hgrow hat hlt2 kB low))
    obtain ⟨U3, hU⟩ : ∃ U, U = w30.setCell ⟨B, 3, none⟩ (.slice (some ⟨g3, 0, none⟩) (lz.length + 1) cap3) := ⟨_, rfl⟩
    rw [← hU] at E3 BB3 CC3 RR3 ⊢
    clear hU kc kz
    go_roundw
    case rel => exact ⟨i + 1, _, _, _, by omega, by go_num, by rw [SP.out, SZ'.out]; exact E3.out, CC3.out, RR3.out, BB3.out⟩
    case measure => simp [intOf]; omega
  · have hie : n = i := by omega
    subst hie
    obtain ⟨Y, hY⟩ : ∃ Y, Y = D3c 0 vP vV vM := ⟨_, rfl⟩
    have HY : Hid _ := hY
    have DB : Hid (∀ V, Below wr.heap.size wr V → V.heap[B]? = some (.cells Y 52 (0, 0)) ∧ V.heap[R]? = some (.cells (D3c 0 (.slice none 0 0) (.slice none 0 0) (.slice none 0 0)) 52 (0, 0))) := fun V b => ⟨by rw [hY]; exact (b.block _ (lt_of_heap HD.out.blk)).trans HD.out.blk, (b.block _ (lt_of_heap HRr.out)).trans HRr.out⟩
    have IY : Hid ((Tryz.prog.info? 52).map (·.size) = some Y.size) := by rw [hY]; exact infoS3 _ _ _ _
    have OY : Hid (Y.all (·.oneCell') = true) := by
     obtain ⟨pa, pc, e1, -⟩ := row_at HD.out.oP
     obtain ⟨va, vc, e2, -⟩ := row_at HD.out.oV
     obtain ⟨ma, mc, e3, -⟩ := row_at HD.out.oM
     show _ = _; rw [hY, e1, e2, e3]; simp [D3c, Value.oneCell']
    clear hY
    go_wp2_with (first
     | (refine wpList_load_row rfl 24 _ rfl Bc rfl 24 X (0, 0) _ HC.out Tryz.underlying24 rfl IX.out ?_)
     | (go_at_call 36; refine (RS.out _).mono ?_; rintro e w1 ⟨rfl, b1⟩
        have K1 : Hid _ := DB.out _ b1
        have B1 : Hid _ := b1
        clear b1)
     | (refine wpList_load_row rfl 52 _ rfl B rfl 52 Y (0, 0) _ K1.out.1 Tryz.underlying52 rfl IY.out ?_)
     | (refine wpList_store_row rfl 52 _ _ rfl R Y rfl rfl 52 _ K1.out.2 IY.out (by rw [HY.out]; rfl) OY.out ?_))
    have BF : Hid (Below wr.heap.size wr w1) := B1.out
    have DF : Hid _ := HD.out.below B1.out
    have OS : Hid (∀ v l, OutI w1 base v l → OutI (w1.setRow R Y) w.heap.size v l) := fun v l h => by
     refine Go.Joins.ownsRow_le (base := base) ⟨h.1, ?_⟩ wB.out.2.1
     rcases h.2 with h' | ⟨k, cap, cur, rfl, h1, h2, h3⟩
     · exact Or.inl h'
     · refine Or.inr ⟨k, cap, cur, rfl, h1, ?_, h3⟩
       rw [setRow_other _ _ _ _ (by have h4 := wB.out; have h5 := HD.out.bB; omega)]; exact h2
    refine bodyPost_ret (v := .agg Y) (results_cell_row Tryz.results17 _ _ R 52 Y (0, 0) _ rfl (setRow_heap w1 _ _ _ _ _ K1.out.2) Tryz.underlying52 rfl IY.out) rfl ⟨vP, vV, vM, by rw [HY.out], OS.out _ _ DF.out.oP, OS.out _ _ DF.out.oV, OS.out _ _ DF.out.oM, ?_⟩
    exact Below.setRow (BW.out.trans (BF.out.mono BW.out.size)) wB.out.2.2.2.2 _
end Go.Proofs.YtoihkljlekknkaaGreat
