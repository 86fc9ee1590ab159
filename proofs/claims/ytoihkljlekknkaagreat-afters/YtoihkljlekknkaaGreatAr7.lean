/-
  The errors of the last layer, by the document. Conditions: there are 1 to 4 sums, and as many numbers wanted; all are patterns.
-/
import Derived.Test.YtoihkljlekknkaaGreatAr5
namespace Go.Proofs.YtoihkljlekknkaaGreat
open Go.RowKit
open Go.Joins (block_setCell cell_of_block unfrozen_of_block)
set_option linter.unusedVariables false
set_option linter.unusedSimpArgs false
theorem MST_succ (s : List Int) (i : Nat) (h : 1 ≤ i) : MST s i = if LESS (MST s (i - 1)) (s.getD i 0) = true then s.getD i 0 else MST s (i - 1) := by
 obtain ⟨k, rfl⟩ : ∃ k, i = k + 1 := ⟨i - 1, by omega⟩
 rfl
set_option maxHeartbeats 16000000 in
set_option maxRecDepth 100000 in
theorem wrong_cross (c : Cf) (hl : c.loss = 1) (s y : List Int) (vs vy : Value) (bs by_ : Nat) (w : World) (hs : OutI w bs vs s) (hy : OutI w by_ vy y) (ps : pats s) (py : pats y) (h1 : 1 ≤ s.length) (h4 : s.length ≤ 4) (hl2 : s.length ≤ y.length) (hyb : y.length < 4611686018427387904) :
 Calls Tryz.prog 108 #[.agg (rcs c), vs, vy] w fun e w' => ∃ v, e = .returned v ∧ OutI w' w.heap.size v (WRONG c.loss s y) ∧ Below w.heap.size w w' := by
 have FIN : Hid (WRONG c.loss s y = WRG (SHR s (MST s (s.length - 1)) (ZED s (MST s (s.length - 1)) s.length) s.length) y s.length) := by show _ = _; unfold WRONG HLD; rw [if_pos hl]
 have k6 : (rcs c)[6]? = some (.int .i64 1) := by rw [← hl]; rfl
 obtain ⟨X, hX⟩ : ∃ X, X = rcs c := ⟨_, rfl⟩
 rw [← hX] at k6 ⊢
 obtain ⟨W, hW, b0, bel, hws⟩ := one_block w X 24
 have c6 : W.cell? ⟨w.heap.size, 6, none⟩ = some (.int .i64 1) := (cell_of_block b0 6).trans k6
 have BE : Hid (Below w.heap.size w W) := bel
 have HW : Hid _ := hW
 obtain ⟨sa, sc, rfl, hsa⟩ := row_at hs
 obtain ⟨ya, yc, rfl, hya⟩ := row_at hy
 obtain ⟨n, hn⟩ : ∃ l, l = s.length := ⟨_, rfl⟩
 obtain ⟨ny, hny⟩ : ∃ l, l = y.length := ⟨_, rfl⟩
 rw [← hn] at h1 h4 hl2 hsa FIN ⊢
 rw [← hny] at hl2 hya hyb ⊢
 have HPS : Hid (pats s) := ps
 have HPY : Hid (pats y) := py
 have HYA : Hid _ := hya
 obtain ⟨gs, rfl, GL, GC0⟩ := hsa (by omega)
 have GLW : Hid (gs < w.heap.size) := GL
 have GC : Hid (∀ V, Below w.heap.size w V → ∀ i, i < n → V.cell? ⟨gs, i, none⟩ = some (.int .i64 (s.getD i 0))) := fun V hV i hi => (hV.cell (p := ⟨gs, i, none⟩) GL).trans (GC0 i hi)
 obtain ⟨j0, ji, jz0, jz1, jz2⟩ := info_three Tryz.infoI
 have INF : Hid _ := And.intro ji (And.intro jz0 (And.intro jz1 jz2))
 have s0 : W.cell? ⟨gs, 0, none⟩ = some (.int .i64 (MST s 0)) := GC.out W bel 0 (by omega)
 have n1 : (1 : Int) ≤ (n : Int) := by omega
 clear hs hy hsa hya b0 bel hW hws hX k6 ji jz0 jz1 jz2 hn hny ps py GL GC0
 rw [hl] at FIN ⊢
 clear hl
 go_enter Tryz.func108, Tryz.ntmps108
 go_upto_region 1 with fail
 rw [HW.out]
 go_wp2
 clear c6 s0
 go_loopw [8, 9] (fun mv iv wr => ∃ i : Nat, 1 ≤ i ∧ i ≤ n ∧ iv = .int .i64 i ∧ mv = .int .i64 (MST s (i - 1)) ∧ Hid (Below w.heap.size w wr)) (fun _ iv _ => n - (intOf iv).toNat)
 case atStart => exact ⟨1, by omega, by omega, rfl, rfl, BE.out⟩
 case round =>
  obtain ⟨i, hi1, hi, rfl, rfl, BW⟩ := hrel
  by_cases hlt : i < n
  · have xi := GC.out wr BW.out i hlt
    have MS : Hid (MST s i = if LESS (MST s (i - 1)) (s.getD i 0) = true then s.getD i 0 else MST s (i - 1)) := MST_succ s i hi1
    have bX := pats_at HPS.out i
    have bM := MST_bd HPS.out (i - 1)
    obtain ⟨x, hx⟩ : ∃ a, a = s.getD i 0 := ⟨_, rfl⟩
    obtain ⟨m, hm⟩ : ∃ a, a = MST s (i - 1) := ⟨_, rfl⟩
    rw [← hx] at xi MS bX
    rw [← hm] at MS bM ⊢
    clear hx hm
    have il : (i : Int) < (n : Int) := by omega
    have i0 : (0 : Int) ≤ (i : Int) := by omega
    have LE : Hid (∀ V, Calls Tryz.prog 77 #[.int .i64 m, .int .i64 x] V fun e w' => e = .returned (.bool (LESS m x)) ∧ Below V.heap.size V w') := fun V => rless_any m x V bM.1 bM.2 bX.1 bX.2
    have BLW : Hid (gs < wr.heap.size) := Nat.lt_of_lt_of_le GLW.out BW.out.size
    cases hc : LESS m x
    all_goals
     rw [hc] at LE MS
     go_wp2_with (first
      | (go_at_call 77; refine (LE.out _).mono ?_; rintro e w1 ⟨rfl, hb⟩
         have xi1 : w1.cell? ⟨gs, i, none⟩ = some (.int .i64 x) := (hb.cell (p := ⟨gs, i, none⟩) BLW.out).trans xi
         have HB : Hid (Below w.heap.size w w1) := BW.out.trans (hb.mono BW.out.size)
         clear hb))
     go_roundw
     case rel => exact ⟨i + 1, by omega, by omega, by go_num, congrArg _ (by rw [Nat.add_sub_cancel, MS.out]; rfl), HB.out⟩
     case measure => simp [intOf]; omega
  · have hie : n = i := by omega
    subst hie
    obtain ⟨m, hm⟩ : ∃ a, a = MST s (n - 1) := ⟨_, rfl⟩
    have bM := MST_bd HPS.out (n - 1)
    rw [← hm] at FIN bM ⊢
    obtain ⟨w2, hw2⟩ : ∃ w2, w2 = wr := ⟨_, rfl⟩
    subst hw2
    have BE2 : Hid (Below w.heap.size w w2) := BW.out
    clear BW hm hi1 hi hlt
    go_wp2
    go_loopw [11, 12, 13] (fun ev zv iv wr => ∃ i : Nat, i ≤ n ∧ iv = .int .i64 i ∧ zv = .int .i64 (ZED s m i) ∧ Hid (OutI wr w2.heap.size ev (EXS s m i)) ∧ Hid (Below w2.heap.size w2 wr)) (fun _ _ iv _ => n - (intOf iv).toNat)
    case atStart => exact ⟨0, by omega, rfl, rfl, World.ownsRow_nil _ _ _ _, Below.refl _ _⟩
    case round =>
     obtain ⟨i, hi, rfl, rfl, OW, BW⟩ := hrel
     by_cases hlt : i < n
     · have xi := GC.out wr (BE2.out.trans (BW.out.mono BE2.out.size)) i hlt
       have bX := pats_at HPS.out i
       have bZ := ZED_bd s m i
       have ZS : Hid (ZED s m (i + 1) = ADD (ZED s m i) (EX1 s m i)) := rfl
       have SUC0 : EXS s m (i + 1) = EXS s m i ++ [EX1 s m i] := EXS_succ s m i
       have EQ1 : Hid (EX1 s m i = EXP (SUB (s.getD i 0) m)) := rfl
       obtain ⟨x, hx⟩ : ∃ a, a = s.getD i 0 := ⟨_, rfl⟩
       obtain ⟨Z, hZ⟩ : ∃ a, a = ZED s m i := ⟨_, rfl⟩
       obtain ⟨R, hR⟩ : ∃ a, a = EX1 s m i := ⟨_, rfl⟩
       rw [← hx] at xi bX EQ1
       rw [← hZ] at bZ ZS ⊢
       rw [← hR] at ZS SUC0 EQ1
       have bS := SUB_bd x m bX.1 bX.2
       have SB : Hid (∀ V, Calls Tryz.prog 43 #[.int .i64 x, .int .i64 m] V fun e w' => e = .returned (.int .i64 (SUB x m)) ∧ Below V.heap.size V w') := fun V => rsub_any x m V bX.1 bX.2 bM.1 bM.2
       obtain ⟨d, hd⟩ : ∃ a, a = SUB x m := ⟨_, rfl⟩
       rw [← hd] at bS SB EQ1
       have EC : Hid (∀ V, Calls Tryz.prog 124 #[.int .i64 d] V fun e w' => e = .returned (.int .i64 R) ∧ Below V.heap.size V w') := fun V => by rw [EQ1.out]; exact rexp_any d V bS.1 bS.2
       have bR : 0 ≤ R ∧ R < 4294967296 := by rw [EQ1.out]; exact EXP_bd d
       have AD : Hid (∀ V, Calls Tryz.prog 45 #[.int .i64 Z, .int .i64 R] V fun e w' => e = .returned (.int .i64 (ADD Z R)) ∧ Below V.heap.size V w') := fun V => radd_any Z R V bZ.1 bZ.2 bR.1 bR.2
       obtain ⟨LS, hLS⟩ : ∃ l, l = EXS s m i := ⟨_, rfl⟩
       have LL : Hid (LS.length = i) := by show _ = _; rw [hLS]; simp [WRG, SHR, EXS]
       have c3 : Hid (LS.length + 1 ≤ maxLen) := by show _ ≤ _; rw [LL.out]; unfold maxLen; omega
       have c4 : Hid ((LS.length + 1) * 8 ≤ 140737488355328) := by show _ ≤ _; rw [LL.out]; omega
       rw [← hLS] at OW SUC0
       have SUC : Hid _ := SUC0
       obtain ⟨ua, uc, hu9, -⟩ := row_at OW.out
       have il : (i : Int) < (n : Int) := by omega
       have i0 : (0 : Int) ≤ (i : Int) := by omega
       clear hx hZ hR hd hLS SUC0
       subst hu9
       go_wp2_with (first
        | (go_at_call 43; refine (SB.out _).mono ?_; rintro e w1 ⟨rfl, hb⟩; have H1 : Hid (Below wr.heap.size wr w1) := hb; clear hb)
        | (go_at_call 124; refine (EC.out _).mono ?_; rintro e w1b ⟨rfl, hb⟩
           have HBv : Hid (Below wr.heap.size wr w1b) := H1.out.trans (hb.mono H1.out.size)
           have OA : Hid ((w1b.alloc (.cells #[.int .i64 R] 3)).ownsRow w2.heap.size 3 1 (.slice ua LS.length uc) LS.length (ints LS)) := World.ownsRow.alloc (owns_below OW.out HBv.out) _
           have BA : Hid (Below w2.heap.size w2 (w1b.alloc (.cells #[.int .i64 R] 3))) := (BW.out.trans (HBv.out.mono BW.out.size)).alloc (Nat.le_trans BW.out.size HBv.out.size) _
           have c6 : Hid (w2.heap.size ≤ (w1b.alloc (.cells #[.int .i64 R] 3)).heap.size) := BA.out.size
           clear hb)
        | (at_builtin; refine wpList_append_lies _ rfl _ _ 47 rfl w2.heap.size 3 j0 _ 1 8 Tryz.underlying47 INF.out.1 INF.out.2.1 INF.out.2.2.1 INF.out.2.2.2 rfl (by decide) _ _ _ rfl OA.out ⟨w1b.heap.size, 0, none⟩ 1 1 [.int .i64 R] rfl rfl (one_cell3 _ _ rfl _) (one_c _ rfl) (by decide) c3.out c4.out c6.out _ rfl ?_
           intro g2 cap2 w5 hown hgrow hat hlt2
           have O5 : Hid (OutI w5 w2.heap.size (.slice (some ⟨g2, 0, none⟩) (LS.length + 1) cap2) (LS ++ [R])) := by
            show World.ownsRow _ _ _ _ _ _ _
            rw [← ints_app, List.length_append]; exact hown
           have E5 : Hid (Below w2.heap.size w2 w5) := BA.out.grown hgrow BA.out.size fun b hb => (World.ownsRow.lt OA.out b hb).1
           clear hown hgrow hat hlt2)
        | (go_at_call 45; refine (AD.out _).mono ?_; rintro e w6 ⟨rfl, hb⟩
           have O6 : Hid (OutI w6 w2.heap.size (.slice (some ⟨g2, 0, none⟩) (LS.length + 1) cap2) (LS ++ [R])) := owns_below O5.out hb
           have E6 : Hid (Below w2.heap.size w2 w6) := E5.out.trans (hb.mono E5.out.size)
           clear hb))
       go_roundw
       case rel => exact ⟨i + 1, by omega, by go_num, congrArg _ ZS.out.symm, by rw [SUC.out]; exact O6.out, E6.out⟩
       case measure => simp [intOf]; omega
     · have hie : n = i := by omega
       subst hie
       obtain ⟨z, hz⟩ : ∃ a, a = ZED s m n := ⟨_, rfl⟩
       have bZ := ZED_bd s m n
       rw [← hz] at FIN bZ ⊢
       obtain ⟨w3, hw3⟩ : ∃ w3, w3 = wr := ⟨_, rfl⟩
       subst hw3
       have BE3 : Hid (Below w.heap.size w w3) := BE2.out.trans (BW.out.mono BE2.out.size)
       obtain ⟨ea, ec, hu9, hea⟩ := row_at OW.out
       have EL : (EXS s m n).length = n := by simp [EXS]
       rw [EL] at hu9 hea
       have EC3 : Hid (∀ i, i < n → ∃ g, ea = some ⟨g, 0, none⟩ ∧ g < w3.heap.size ∧ w3.cell? ⟨g, i, none⟩ = some (.int .i64 (EX1 s m i))) := fun i hi => by
        obtain ⟨g, e, gl, gc⟩ := hea (by omega)
        exact ⟨g, e, gl, by rw [gc i hi, EXS_at s m n i hi]⟩
       subst hu9
       clear BW OW hz hi hlt EL hea
       go_wp2
       go_loopw [7, 15] (fun pv iv wr => ∃ i : Nat, i ≤ n ∧ iv = .int .i64 i ∧ Hid (OutI wr w3.heap.size pv (SHR s m z i)) ∧ Hid (Below w3.heap.size w3 wr)) (fun _ iv _ => n - (intOf iv).toNat)
       case atStart => exact ⟨0, by omega, rfl, World.ownsRow_nil _ _ _ _, Below.refl _ _⟩
       case round =>
        obtain ⟨i, hi, rfl, OW, BW⟩ := hrel
        by_cases hlt : i < n
        · obtain ⟨ge, rfl, gl, xe⟩ := EC3.out i hlt
          have xi : wr.cell? ⟨ge, i, none⟩ = some (.int .i64 (EX1 s m i)) := (BW.out.cell (p := ⟨ge, i, none⟩) gl).trans xe
          have bX : 0 ≤ EX1 s m i ∧ EX1 s m i < 4294967296 := EXP_bd _
          have SUC0 : SHR s m z (i + 1) = SHR s m z i ++ [DIV (EX1 s m i) z] := SHR_succ s m z i
          obtain ⟨x, hx⟩ : ∃ a, a = EX1 s m i := ⟨_, rfl⟩
          rw [← hx] at xi bX SUC0
          have DV : Hid (∀ V, Calls Tryz.prog 46 #[.int .i64 x, .int .i64 z] V fun e w' => e = .returned (.int .i64 (DIV x z)) ∧ Below V.heap.size V w') := fun V => rdiv_any x z V bX.1 bX.2 bZ.1 bZ.2
          obtain ⟨R, hR⟩ : ∃ a, a = DIV x z := ⟨_, rfl⟩
          rw [← hR] at DV SUC0
          obtain ⟨LS, hLS⟩ : ∃ l, l = SHR s m z i := ⟨_, rfl⟩
          have LL : Hid (LS.length = i) := by show _ = _; rw [hLS]; simp [WRG, SHR, EXS]
          have c3 : Hid (LS.length + 1 ≤ maxLen) := by show _ ≤ _; rw [LL.out]; unfold maxLen; omega
          have c4 : Hid ((LS.length + 1) * 8 ≤ 140737488355328) := by show _ ≤ _; rw [LL.out]; omega
          rw [← hLS] at OW SUC0
          have SUC : Hid _ := SUC0
          obtain ⟨ua, uc, hu9, -⟩ := row_at OW.out
          have il : (i : Int) < (n : Int) := by omega
          have i0 : (0 : Int) ≤ (i : Int) := by omega
          clear hx hR hLS SUC0 xe gl
          subst hu9
          go_wp2_with (first
           | (go_at_call 46; refine (DV.out _).mono ?_; rintro e w1 ⟨rfl, hb⟩
              have HBv : Hid (Below wr.heap.size wr w1) := hb
              have OA : Hid ((w1.alloc (.cells #[.int .i64 R] 3)).ownsRow w3.heap.size 3 1 (.slice ua LS.length uc) LS.length (ints LS)) := World.ownsRow.alloc (owns_below OW.out HBv.out) _
              have BA : Hid (Below w3.heap.size w3 (w1.alloc (.cells #[.int .i64 R] 3))) := (BW.out.trans (HBv.out.mono BW.out.size)).alloc (Nat.le_trans BW.out.size HBv.out.size) _
              have c6 : Hid (w3.heap.size ≤ (w1.alloc (.cells #[.int .i64 R] 3)).heap.size) := BA.out.size
              clear hb)
           | (at_builtin; refine wpList_append_lies _ rfl _ _ 47 rfl w3.heap.size 3 j0 _ 1 8 Tryz.underlying47 INF.out.1 INF.out.2.1 INF.out.2.2.1 INF.out.2.2.2 rfl (by decide) _ _ _ rfl OA.out ⟨w1.heap.size, 0, none⟩ 1 1 [.int .i64 R] rfl rfl (one_cell3 _ _ rfl _) (one_c _ rfl) (by decide) c3.out c4.out c6.out _ rfl ?_
              intro g2 cap2 w5 hown hgrow hat hlt2
              have O5 : Hid (OutI w5 w3.heap.size (.slice (some ⟨g2, 0, none⟩) (LS.length + 1) cap2) (LS ++ [R])) := by
               show World.ownsRow _ _ _ _ _ _ _
               rw [← ints_app, List.length_append]; exact hown
              have E5 : Hid (Below w3.heap.size w3 w5) := BA.out.grown hgrow BA.out.size fun b hb => (World.ownsRow.lt OA.out b hb).1
              clear hown hgrow hat hlt2))
          go_roundw
          case rel => exact ⟨i + 1, by omega, by go_num, by rw [SUC.out]; exact O5.out, E5.out⟩
          case measure => simp [intOf]; omega
        · have hie : n = i := by omega
          subst hie
          obtain ⟨p, hp⟩ : ∃ p, p = SHR s m z n := ⟨_, rfl⟩
          have HPP : Hid (pats p) := by rw [hp]; exact SHR_pats s m z n
          have PLn : p.length = n := by rw [hp]; simp [SHR]
          rw [← hp] at OW FIN
          obtain ⟨w4, hw4⟩ : ∃ w4, w4 = wr := ⟨_, rfl⟩
          subst hw4
          have BE4 : Hid (Below w.heap.size w w4) := BE3.out.trans (BW.out.mono BE3.out.size)
          obtain ⟨pa, pc, hu9, hpa⟩ := row_at OW.out
          rw [PLn] at hu9 hpa
          have PC : Hid (∀ i, i < n → ∃ g, pa = some ⟨g, 0, none⟩ ∧ g < w4.heap.size ∧ w4.cell? ⟨g, i, none⟩ = some (.int .i64 (p.getD i 0))) := fun i hi => by
           obtain ⟨g, e, gl, gc⟩ := hpa (by omega)
           exact ⟨g, e, gl, gc i hi⟩
          subst hu9
          clear BW OW hp hi hlt PLn hpa
          go_wp2
          go_loopw [17, 18] (fun lv iv wr => ∃ i : Nat, i ≤ n ∧ iv = .int .i64 i ∧ Hid (OutI wr w4.heap.size lv (WRG p y i)) ∧ Hid (Below w4.heap.size w4 wr)) (fun _ iv _ => n - (intOf iv).toNat)
          case atStart => exact ⟨0, by omega, rfl, World.ownsRow_nil _ _ _ _, Below.refl _ _⟩
          case round =>
           obtain ⟨i, hi, rfl, OW, BW⟩ := hrel
           by_cases hlt : i < n
           · obtain ⟨gp, rfl, PL, pi0⟩ := PC.out i hlt
             obtain ⟨gy, rfl, YL, YC⟩ := HYA.out (by omega)
             have YLb : gy < w4.heap.size := Nat.lt_of_lt_of_le YL BE4.out.size
             have yi : wr.cell? ⟨gy, i, none⟩ = some (.int .i64 (y.getD i 0)) := (BW.out.cell (p := ⟨gy, i, none⟩) YLb).trans ((BE4.out.cell (p := ⟨gy, i, none⟩) YL).trans (YC i (by omega)))
             have pi : wr.cell? ⟨gp, i, none⟩ = some (.int .i64 (p.getD i 0)) := (BW.out.cell (p := ⟨gp, i, none⟩) PL).trans pi0
             have LT : Hid (gp < wr.heap.size ∧ gy < wr.heap.size) := ⟨Nat.lt_of_lt_of_le PL BW.out.size, Nat.lt_of_lt_of_le YLb BW.out.size⟩
             have bA := pats_at HPP.out i
             have bB := pats_at HPY.out i
             have SUC0 : WRG p y (i + 1) = WRG p y i ++ [SUB (p.getD i 0) (y.getD i 0)] := WRG_succ p y i
             obtain ⟨A, hA⟩ : ∃ a, a = p.getD i 0 := ⟨_, rfl⟩
             obtain ⟨Y, hY⟩ : ∃ a, a = y.getD i 0 := ⟨_, rfl⟩
             rw [← hA] at pi bA SUC0
             rw [← hY] at yi bB SUC0
             have SB : Hid (∀ V, Calls Tryz.prog 43 #[.int .i64 A, .int .i64 Y] V fun e w' => e = .returned (.int .i64 (SUB A Y)) ∧ Below V.heap.size V w') := fun V => rsub_any A Y V bA.1 bA.2 bB.1 bB.2
             obtain ⟨R, hR⟩ : ∃ a, a = SUB A Y := ⟨_, rfl⟩
             rw [← hR] at SB SUC0
             obtain ⟨LS, hLS⟩ : ∃ l, l = WRG p y i := ⟨_, rfl⟩
             have LL : Hid (LS.length = i) := by show _ = _; rw [hLS]; simp [WRG, SHR, EXS]
             have c3 : Hid (LS.length + 1 ≤ maxLen) := by show _ ≤ _; rw [LL.out]; unfold maxLen; omega
             have c4 : Hid ((LS.length + 1) * 8 ≤ 140737488355328) := by show _ ≤ _; rw [LL.out]; omega
             rw [← hLS] at OW SUC0
             have SUC : Hid _ := SUC0
             obtain ⟨ua, uc, hu9, -⟩ := row_at OW.out
             have il : (i : Int) < (n : Int) := by omega
             have il2 : (i : Int) < (ny : Int) := by omega
             have i0 : (0 : Int) ≤ (i : Int) := by omega
             have S0 : wr.drew.cell? ⟨gp, i, none⟩ = some (.int .i64 A) ∧ wr.drew.cell? ⟨gy, i, none⟩ = some (.int .i64 Y) := ⟨pi, yi⟩
             clear hA hY hR hLS PL pi0 YL YC YLb SUC0
             subst hu9
             go_upto_region 28 with fail
             go_region_held3 (fun w' => w'.cell? ⟨gp, i, none⟩ = some (.int .i64 A) ∧ w'.cell? ⟨gy, i, none⟩ = some (.int .i64 Y)) (assumption) (first
              | (go_at_call 43; refine (SB.out _).mono ?_; rintro e w1 ⟨rfl, hb⟩
                 have S1 : w1.cell? ⟨gp, i, none⟩ = some (.int .i64 A) ∧ w1.cell? ⟨gy, i, none⟩ = some (.int .i64 Y) := ⟨(hb.cell (p := ⟨gp, i, none⟩) LT.out.1).trans pi, (hb.cell (p := ⟨gy, i, none⟩) LT.out.2).trans yi⟩
                 have HBv : Hid (Below wr.heap.size wr w1) := ((Below.refl _ _).drew).trans hb
                 clear hb))
             have OA : Hid ((w1.alloc (.cells #[.int .i64 R] 3)).ownsRow w4.heap.size 3 1 (.slice ua LS.length uc) LS.length (ints LS)) := World.ownsRow.alloc (owns_below OW.out HBv.out) _
             have BA : Hid (Below w4.heap.size w4 (w1.alloc (.cells #[.int .i64 R] 3))) := (BW.out.trans (HBv.out.mono BW.out.size)).alloc (Nat.le_trans BW.out.size HBv.out.size) _
             have c6 : Hid (w4.heap.size ≤ (w1.alloc (.cells #[.int .i64 R] 3)).heap.size) := BA.out.size
             clear S0 S1 pi yi
             go_wp2_with (first
              | (at_builtin; refine wpList_append_lies _ rfl _ _ 47 rfl w4.heap.size 3 j0 _ 1 8 Tryz.underlying47 INF.out.1 INF.out.2.1 INF.out.2.2.1 INF.out.2.2.2 rfl (by decide) _ _ _ rfl OA.out ⟨w1.heap.size, 0, none⟩ 1 1 [.int .i64 R] rfl rfl (one_cell3 _ _ rfl _) (one_c _ rfl) (by decide) c3.out c4.out c6.out _ rfl ?_
                 intro g2 cap2 w5 hown hgrow hat hlt2
                 have O5 : Hid (OutI w5 w4.heap.size (.slice (some ⟨g2, 0, none⟩) (LS.length + 1) cap2) (LS ++ [R])) := by
                  show World.ownsRow _ _ _ _ _ _ _
                  rw [← ints_app, List.length_append]; exact hown
                 have E5 : Hid (Below w4.heap.size w4 w5) := BA.out.grown hgrow BA.out.size fun b hb => (World.ownsRow.lt OA.out b hb).1
                 clear hown hgrow hat hlt2))
             go_roundw
             case rel => exact ⟨i + 1, by omega, by go_num, by rw [SUC.out]; exact O5.out, E5.out⟩
             case measure => simp [intOf]; omega
           · have hie : i = n := by omega
             subst hie
             obtain ⟨ua, uc, hu9, -⟩ := row_at OW.out
             subst hu9
             go_wp2
             go_ret
             exact ⟨_, rfl, by rw [FIN.out]; exact Go.Joins.ownsRow_le OW.out BE4.out.size, BE4.out.trans (BW.out.mono BE4.out.size)⟩
theorem wrong_any (c : Cf) (s y : List Int) (vs vy : Value) (bs by_ : Nat) (w : World) (hs : OutI w bs vs s) (hy : OutI w by_ vy y) (ps : pats s) (py : pats y) (h1 : 1 ≤ s.length) (h4 : s.length ≤ 4) (hl2 : s.length ≤ y.length) (hyb : y.length < 4611686018427387904) :
 Calls Tryz.prog 108 #[.agg (rcs c), vs, vy] w fun e w' => ∃ v, e = .returned v ∧ OutI w' w.heap.size v (WRONG c.loss s y) ∧ Below w.heap.size w w' := by
 by_cases hl : c.loss = 1
 · exact wrong_cross c hl s y vs vy bs by_ w hs hy ps py h1 h4 hl2 hyb
 · exact wrong_plain c hl s y vs vy bs by_ w hs hy ps py h1 h4 hl2 hyb
end Go.Proofs.YtoihkljlekknkaaGreat
