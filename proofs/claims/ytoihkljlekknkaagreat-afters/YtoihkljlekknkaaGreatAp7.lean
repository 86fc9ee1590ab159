/-
  The last layer's greatest sum, of the program. Conditions: the patterns are 0 to 2^32 - 1; the numbers are small.
-/
import Derived.Test.YtoihkljlekknkaaGreatAr4
import Derived.Test.YtoihkljlekknkaaGreatAr5
import Derived.Test.YtoihkljlekknkaaGreatInts
import Derived.Deep.RegionWith
import Derived.Test.YtoihkljlekknkaaGreatAr1
namespace Go.Proofs.YtoihkljlekknkaaGreat
open Go.RowKit
open Go.Joins (cell_of_block unfrozen_of_block)
set_option linter.unusedVariables false
set_option linter.unusedSimpArgs false
set_option maxHeartbeats 4000000 in
set_option maxRecDepth 100000 in
theorem most_any (B o gs ns cs : Nat) (s : List Int) (w : World)
 (c4 : w.cell? ⟨B, o + 4, none⟩ = some (.slice (some ⟨gs, 0, none⟩) ns cs)) (hs : ∀ i, i < ns → w.cell? ⟨gs, i, none⟩ = some (.int .u32 (s.getD i 0)))
 (ps : pats s) (n1 : 1 ≤ ns) (ns4 : ns ≤ 4) (cs1 : ns ≤ cs) (cs2 : cs ≤ 1000) :
 Calls Tryz.prog 133 #[.pointer (some ⟨B, o, none⟩)] w fun e w' => e = .returned (.int .u32 (MST s (ns - 1))) ∧ w' = w := by
 have HS : Hid _ := hs
 have HP : Hid _ := ps
 have s0 : w.cell? ⟨gs, 0, none⟩ = some (.int .u32 (s.getD 0 0)) := hs 0 (by omega)
 have M0 : Hid (MST s 0 = s.getD 0 0) := rfl
 obtain ⟨v0, hv0⟩ : ∃ v, v = s.getD 0 0 := ⟨_, rfl⟩
 rw [← hv0] at s0 M0
 obtain ⟨m, hm⟩ : ∃ m, ns = m + 1 := ⟨ns - 1, by omega⟩
 subst hm
 rw [Nat.add_sub_cancel]
 clear hs ps hv0
 by_cases h1 : cs = 1
 · have m0 : m = 0 := by omega
   subst h1
   subst m0
   go_enter Tryz.func133, Tryz.ntmps133
   go_wp2
   go_loop [3, 20] (fun mv iv => iv = .int .i64 0 ∧ mv = .int .u32 (MST s 0)) (fun _ iv => 0)
   case atStart => exact ⟨rfl, by rw [M0.out]⟩
   case round =>
    obtain ⟨rfl, rfl⟩ := hrel
    go_wp2
    go_ret
    exact ⟨rfl, rfl⟩
 · go_enter Tryz.func133, Tryz.ntmps133
   go_wp2
   go_loop [3, 20] (fun mv iv => ∃ i : Nat, i ≤ m ∧ iv = .int .i64 i ∧ mv = .int .u32 (MST s i)) (fun _ iv => m - (intOf iv).toNat)
   case atStart => exact ⟨0, by omega, rfl, by rw [M0.out]⟩
   case round =>
    obtain ⟨i, hi, rfl, rfl⟩ := hrel
    by_cases hlt : i < m
    · have si : w.cell? ⟨gs, 1 + i, none⟩ = some (.int .u32 (s.getD (i + 1) 0)) := by rw [Nat.add_comm 1 i]; exact HS.out (i + 1) (by omega)
      have mb := MST_bd HP.out i
      have sb := pats_at HP.out (i + 1)
      have SU : Hid (MST s (i + 1) = if LESS (MST s i) (s.getD (i + 1) 0) = true then s.getD (i + 1) 0 else MST s i) := rfl
      obtain ⟨mv, hmv⟩ : ∃ v, v = MST s i := ⟨_, rfl⟩
      obtain ⟨sv, hsv⟩ : ∃ v, v = s.getD (i + 1) 0 := ⟨_, rfl⟩
      rw [← hmv] at mb SU ⊢
      rw [← hsv] at si sb SU
      clear hmv hsv
      have LE : Hid (∀ V, Calls Tryz.prog 60 #[.int .u32 mv, .int .u32 sv] V fun e w' => e = .returned (.bool (LESS mv sv)) ∧ w' = V) := fun V => less_any mv sv V mb.1 mb.2 sb.1 sb.2
      cases hl : LESS mv sv
      · rw [hl] at LE SU
        have SU2 : Hid (MST s (i + 1) = mv) := SU.out.trans (if_neg (by simp))
        clear hl SU
        go_wp2_with (first | (go_at_call 60; refine (LE.out _).mono ?_; rintro e w6 ⟨rfl, hw'⟩; subst w6))
        go_round
        case rel => exact ⟨i + 1, by omega, by go_num, congrArg _ SU2.out.symm⟩
        case measure => simp [intOf]; omega
      · rw [hl] at LE SU
        have SU2 : Hid (MST s (i + 1) = sv) := SU.out.trans (if_pos rfl)
        clear hl SU
        go_wp2_with (first | (go_at_call 60; refine (LE.out _).mono ?_; rintro e w6 ⟨rfl, hw'⟩; subst w6))
        go_round
        case rel => exact ⟨i + 1, by omega, by go_num, congrArg _ SU2.out.symm⟩
        case measure => simp [intOf]; omega
    · have hie : m = i := by omega
      subst hie
      go_wp2
      go_ret
      exact ⟨rfl, rfl⟩
end Go.Proofs.YtoihkljlekknkaaGreat
/-
  The last layer's shares, of the program. Conditions: the patterns are 0 to 2^32 - 1; the numbers are small.
-/
namespace Go.Proofs.YtoihkljlekknkaaGreat
open Go.RowKit
open Go.Joins (cell_of_block unfrozen_of_block)
set_option linter.unusedVariables false
set_option linter.unusedSimpArgs false
theorem Tryz.infoU : (Tryz.prog.info? 29).map (fun i => (i.zero, i.size, i.bytes)) = some (some (.int .u32 0), 1, 4) := by kernel_rfl
theorem Tryz.under43 : Tryz.prog.underlying 43 = some (.slice 29) := by kernel_rfl
theorem made_u32 {w : World} {base g n : Nat} (h : w.ownsRow base 29 1 (.slice (some ⟨g, 0, none⟩) n n) n (madeCells #[Value.int IntKind.u32 0] n).toList) : w.heap[g]? = some (.cells (u32s (List.replicate n 0)) 29 (0, 0)) := by
 rcases h.2 with ⟨h', _⟩ | ⟨g', cap, cur, h', _, hg, _, _, hs, ht⟩
 · simp at h'
 · simp only [Value.slice.injEq, Option.some.injEq, Addr.mk.injEq, and_true, true_and] at h'
   obtain ⟨rfl, rfl⟩ := h'
   rw [hg]
   have e : cur.toList = (u32s (List.replicate n 0)).toList := by
    rw [List.take_of_length_le (by rw [Array.length_toList]; omega)] at ht
    rw [ht, toList_madeCells_one]
    simp [u32s]
   rw [Array.toList_inj.1 e]
set_option maxHeartbeats 4000000 in
set_option maxRecDepth 100000 in
theorem shares_any (B o gs ns cs : Nat) (s : List Int) (w : World) (hBl : B < w.heap.size) (hgl : gs < w.heap.size)
 (c1 : w.cell? ⟨B, o + 1, none⟩ = some (.int .i64 (ns : Int))) (c4 : w.cell? ⟨B, o + 4, none⟩ = some (.slice (some ⟨gs, 0, none⟩) ns cs)) (hs : ∀ i, i < ns → w.cell? ⟨gs, i, none⟩ = some (.int .u32 (s.getD i 0)))
 (ps : pats s) (n1 : 1 ≤ ns) (ns4 : ns ≤ 4) (cs1 : ns ≤ cs) (cs2 : cs ≤ 1000) :
 Calls Tryz.prog 126 #[.pointer (some ⟨B, o, none⟩)] w fun e w' => e = .returned (.slice (some ⟨w.heap.size, 0, none⟩) ns ns) ∧ w'.heap[w.heap.size]? = some (.cells (u32s (SHR s (MST s (ns - 1)) (ZED s (MST s (ns - 1)) ns) ns)) 29 (0, 0)) ∧ Below w.heap.size w w' := by
 obtain ⟨j0, ji, jz0, jz1, jz2⟩ := info_three Tryz.infoU
 have MS : Hid (∀ V, Below w.heap.size w V → Calls Tryz.prog 133 #[.pointer (some ⟨B, o, none⟩)] V fun e w' => e = .returned (.int .u32 (MST s (ns - 1))) ∧ w' = V) := fun V h =>
  most_any B o gs ns cs s V ((h.cell (p := ⟨B, o + 4, none⟩) hBl).trans c4) (fun i hi => (h.cell (p := ⟨gs, i, none⟩) hgl).trans (hs i hi)) ps n1 ns4 cs1 cs2
 have mb := MST_bd ps (ns - 1)
 obtain ⟨m, hm⟩ : ∃ m, m = MST s (ns - 1) := ⟨_, rfl⟩
 rw [← hm] at MS mb ⊢
 have HC4 : Hid _ := c4
 have HS : Hid _ := hs
 have HP : Hid _ := ps
 have HBL : Hid _ := hBl
 have HGL : Hid _ := hgl
 obtain ⟨G, hG⟩ : ∃ G, G = w.heap.size := ⟨_, rfl⟩
 obtain ⟨z, hz⟩ : ∃ z, z = ZED s m ns := ⟨_, rfl⟩
 have zb0 := ZED_bd s m ns
 rw [← hz] at zb0
 rw [← hG, ← hz]
 have HG : Hid _ := hG
 have HZ : Hid _ := hz
 have ZB : Hid _ := zb0
 clear hm hs ps c4 hG hz zb0 hBl hgl
 go_enter Tryz.func126, Tryz.ntmps126
 go_wp2_with (first
  | (at_make; refine wpList_make_full _ rfl _ _ 43 rfl w.heap.size 29 j0 _ 1 Tryz.under43 ji jz0 jz1 _ _ _ _ ns rfl rfl rfl rfl (by rw [jz2]; omega) (by unfold maxLen; omega) (Nat.le_refl _) ?_
     intro w1 hown hgr
     rw [Nat.mul_one] at hown
     have BW1 : Hid (Below w.heap.size w w1) := (Below.refl _ _).grown hgr (Nat.le_refl _) (by simp)
     have H1 : Hid (w1.heap[w.heap.size]? = some (.cells (u32s (List.replicate ns 0)) 29 (0, 0))) := made_u32 hown
     have d4 : w1.cell? ⟨B, o + 4, none⟩ = some (.slice (some ⟨gs, 0, none⟩) ns cs) := (BW1.out.cell (p := ⟨B, o + 4, none⟩) HBL.out).trans HC4.out
     clear hown hgr)
  | (go_at_call 133; refine (MS.out _ BW1.out).mono ?_; rintro e w6 ⟨rfl, hw'⟩; subst w6))
 rw [← HG.out] at H1 BW1 ⊢
 clear d4 MS HC4 c1 ji jz0 jz1 jz2
 go_loopw [5, 24] (fun tv iv wr => ∃ i : Nat, i ≤ ns ∧ iv = .int .i64 i ∧ tv = .int .u32 (ZED s m i) ∧ ∃ l : List Int, Hid (l.length = ns) ∧ Hid (∀ k, k < i → l.getD k 0 = EX1 s m k) ∧ Hid (wr.heap[G]? = some (.cells (u32s l) 29 (0, 0))) ∧ Hid (Below G w wr)) (fun _ iv _ => ns - (intOf iv).toNat)
 case atStart => exact ⟨0, by omega, rfl, rfl, List.replicate ns 0, List.length_replicate, fun k hk => absurd hk (by omega), H1.out, BW1.out⟩
 case round =>
  clear H1 BW1
  obtain ⟨i, hi, rfl, rfl, l, LL, LI, HL, BW⟩ := hrel
  by_cases hlt : i < ns
  · have si : wr.cell? ⟨gs, i, none⟩ = some (.int .u32 (s.getD i 0)) := (BW.out.cell (p := ⟨gs, i, none⟩) (Nat.lt_of_lt_of_eq HGL.out HG.out.symm)).trans (HS.out i hlt)
    have sb := pats_at HP.out i
    have zb := ZED_bd s m i
    have SU : Hid (ZED s m (i + 1) = ADD (ZED s m i) (EX1 s m i)) := rfl
    have EE : Hid (EX1 s m i = EXP (SUB (s.getD i 0) m)) := rfl
    obtain ⟨sv, hsv⟩ : ∃ v, v = s.getD i 0 := ⟨_, rfl⟩
    obtain ⟨zv, hzv⟩ : ∃ v, v = ZED s m i := ⟨_, rfl⟩
    rw [← hsv] at si sb EE
    rw [← hzv] at zb SU ⊢
    have db := SUB_bd sv m sb.1 sb.2
    have X1 : Hid (∀ V, Calls Tryz.prog 64 #[.int .u32 sv, .int .u32 m] V fun e w' => e = .returned (.int .u32 (SUB sv m)) ∧ w' = V) := fun V => sub_any sv m V sb.1 sb.2 mb.1 mb.2
    obtain ⟨dv, hdv⟩ : ∃ v, v = SUB sv m := ⟨_, rfl⟩
    rw [← hdv] at db X1 EE
    have eb := EXP_bd dv
    have X2 : Hid (∀ V, Calls Tryz.prog 134 #[.int .u32 dv] V fun e w' => e = .returned (.int .u32 (EXP dv)) ∧ Below V.heap.size V w') := fun V => exp_any dv V db.1 db.2
    rw [← EE.out] at eb X2
    obtain ⟨ev, hev⟩ : ∃ v, v = EX1 s m i := ⟨_, rfl⟩
    have EV : Hid _ := hev
    rw [← hev] at eb X2 SU
    have X3 : Hid (∀ V, Calls Tryz.prog 56 #[.int .u32 zv, .int .u32 ev] V fun e w' => e = .returned (.int .u32 (ADD zv ev)) ∧ w' = V) := fun V => add_any zv ev V zb.1 zb.2 eb.1 eb.2
    have il : (i : Int) < (ns : Int) := by omega
    have i0 : (0 : Int) ≤ (i : Int) := by omega
    have gl := lt_of_heap HL.out
    have GL : Hid _ := gl
    clear hsv hzv hdv hev EE gl
    go_wp2_with (first
     | (go_at_call 64; refine (X1.out _).mono ?_; rintro e w6 ⟨rfl, hw'⟩; subst w6)
     | (go_at_call 134; refine (X2.out _).mono ?_; rintro e w7 ⟨rfl, hb⟩
        have L7 : Hid (w7.heap[G]? = some (.cells (u32s l) 29 (0, 0))) := (hb.block _ GL.out).trans HL.out
        have B7 : Hid (Below G w w7) := BW.out.trans (hb.mono (Nat.le_of_lt GL.out))
        have a7 : w7.cell? ⟨G, i, none⟩ = some (.int .u32 (l.getD i 0)) := (cell_of_block L7.out _).trans (u32s_at l i (by rw [LL.out]; exact hlt))
        have f7 : w7.frozen? ⟨G, i, none⟩ = false := unfrozen_of_block L7.out _
        have L8 : Hid ((w7.setCell ⟨G, i, none⟩ (.int .u32 ev)).heap[G]? = some (.cells (u32s (l.set i ev)) 29 (0, 0))) := by show _ = _; rw [heap_set w7 G i _ _ 29 _ L7.out, u32s_set]
        have a8 : (w7.setCell ⟨G, i, none⟩ (.int .u32 ev)).cell? ⟨G, i, none⟩ = some (.int .u32 ev) := by
         rw [cell_of_block L8.out, u32s_at _ i (by rw [List.length_set, LL.out]; exact hlt), getD_set, if_pos ⟨rfl, by rw [LL.out]; exact hlt⟩]
        clear hb)
     | (go_at_call 56; refine (X3.out _).mono ?_; rintro e w9 ⟨rfl, hw'⟩; subst w9))
    go_roundw
    case rel =>
     refine ⟨i + 1, by omega, by go_num, congrArg _ SU.out.symm, l.set i ev, ?_, fun k hk => ?_, L8.out, B7.out.setCell (p := ⟨G, i, none⟩) (Nat.le_refl _) _⟩
     · show _ = _; rw [List.length_set]; exact LL.out
     · rw [getD_set]
       by_cases e : i = k
       · rw [if_pos ⟨e, by rw [LL.out]; exact hlt⟩, EV.out, e]
       · rw [if_neg (fun h => e h.1)]; exact LI.out k (by omega)
    case measure => simp [intOf]; omega
  · have hie : ns = i := by omega
    have zb := ZB.out
    rw [← hie, ← HZ.out]
    have LI2 : Hid (∀ k, k < ns → l.getD k 0 = EX1 s m k) := by rw [hie]; exact LI.out
    clear hie LI hlt hi
    go_wp2
    go_loopw [45] (fun iv wz => ∃ i : Nat, i ≤ ns ∧ iv = .int .i64 i ∧ ∃ l : List Int, Hid (l.length = ns) ∧ Hid (∀ k, k < i → l.getD k 0 = DIV (EX1 s m k) z) ∧ Hid (∀ k, i ≤ k → k < ns → l.getD k 0 = EX1 s m k) ∧ Hid (wz.heap[G]? = some (.cells (u32s l) 29 (0, 0))) ∧ Hid (Below G w wz)) (fun iv _ => ns - (intOf iv).toNat)
    case atStart => exact ⟨0, by omega, rfl, l, LL.out, fun k hk => absurd hk (by omega), fun k _ hk => LI2.out k hk, HL.out, BW.out⟩
    case round =>
     clear LL LI2 HL BW
     obtain ⟨i, hi, rfl, l, LL, LI, LJ, HL, BW⟩ := hrel
     by_cases hlt : i < ns
     · have eq1 : l.getD i 0 = EX1 s m i := LJ.out i (Nat.le_refl _) hlt
       have ai : wr.cell? ⟨G, i, none⟩ = some (.int .u32 (EX1 s m i)) := by rw [cell_of_block HL.out, u32s_at l i (by rw [LL.out]; exact hlt), eq1]
       have fi : wr.frozen? ⟨G, i, none⟩ = false := unfrozen_of_block HL.out _
       have eb : 0 ≤ EX1 s m i ∧ EX1 s m i < 4294967296 := EXP_bd _
       obtain ⟨ev, hev⟩ : ∃ v, v = EX1 s m i := ⟨_, rfl⟩
       have EV : Hid _ := hev
       rw [← hev] at ai eb
       have X1 : Hid (∀ V, Calls Tryz.prog 58 #[.int .u32 ev, .int .u32 z] V fun e w' => e = .returned (.int .u32 (DIV ev z)) ∧ ∃ n, w' = V.drewN n) := fun V => div_any ev z V eb.1 eb.2 zb.1 zb.2
       have il : (i : Int) < (ns : Int) := by omega
       have i0 : (0 : Int) ≤ (i : Int) := by omega
       have gl := lt_of_heap HL.out
       have GL : Hid _ := gl
       clear hev eq1 gl
       go_wp2_with (first
        | (go_at_call 58; refine (X1.out _).mono ?_; rintro e w7 ⟨rfl, hn⟩
           have hb : Below wr.heap.size wr w7 := by obtain ⟨n, rfl⟩ := hn; exact Go.Joins.below_draws _ _ _
           have L7 : Hid (w7.heap[G]? = some (.cells (u32s l) 29 (0, 0))) := (hb.block _ GL.out).trans HL.out
           have B7 : Hid (Below G w w7) := BW.out.trans (hb.mono (Nat.le_of_lt GL.out))
           have a7 : w7.cell? ⟨G, i, none⟩ = some (.int .u32 (l.getD i 0)) := (cell_of_block L7.out _).trans (u32s_at l i (by rw [LL.out]; exact hlt))
           have f7 : w7.frozen? ⟨G, i, none⟩ = false := unfrozen_of_block L7.out _
           clear hb hn))
       go_roundw
       case rel =>
        refine ⟨i + 1, by omega, by go_num, l.set i (DIV ev z), ?_, fun k hk => ?_, fun k hk hk2 => ?_, ?_, B7.out.setCell (p := ⟨G, i, none⟩) (Nat.le_refl _) _⟩
        · show _ = _; rw [List.length_set]; exact LL.out
        · rw [getD_set]
          by_cases e : i = k
          · rw [if_pos ⟨e, by rw [LL.out]; exact hlt⟩, EV.out, e]
          · rw [if_neg (fun h => e h.1)]; exact LI.out k (by omega)
        · rw [getD_set, if_neg (fun h => by omega)]; exact LJ.out k (by omega) hk2
        · show _ = _; rw [heap_set w7 G i _ _ 29 _ L7.out, u32s_set]
       case measure => simp [intOf]; omega
     · have hie : ns = i := by omega
       have R : Hid (wr.heap[G]? = some (.cells (u32s (SHR s m z ns)) 29 (0, 0))) := by
        show _ = _
        rw [HL.out]
        have e : l = SHR s m z ns := by
         apply List.ext_getElem
         · rw [LL.out]; simp [SHR]
         · intro k h1 h2
           have := LI.out k (by rw [LL.out] at h1; omega)
           rw [List.getD_eq_getElem?_getD, List.getElem?_eq_getElem h1] at this
           simpa [SHR] using this
        rw [e]
       clear hie
       go_wp2
       go_ret
       exact ⟨rfl, R.out, BW.out⟩
end Go.Proofs.YtoihkljlekknkaaGreat
/-
  The last layer's errors, of the program. Conditions: the patterns are 0 to 2^32 - 1; the numbers are small.
-/
namespace Go.Proofs.YtoihkljlekknkaaGreat
open Go.RowKit
open Go.Joins (cell_of_block unfrozen_of_block)
set_option linter.unusedVariables false
set_option linter.unusedSimpArgs false
theorem SHR_len (s : List Int) (m z : Int) (k : Nat) : (SHR s m z k).length = k := by simp [SHR]
set_option maxHeartbeats 4000000 in
set_option maxRecDepth 100000 in
theorem held_any (B o gs ns cs : Nat) (loss : Int) (s : List Int) (w : World) (hBl : B < w.heap.size) (hgl : gs < w.heap.size)
 (c1 : w.cell? ⟨B, o + 1, none⟩ = some (.int .i64 (ns : Int))) (c4 : w.cell? ⟨B, o + 4, none⟩ = some (.slice (some ⟨gs, 0, none⟩) ns cs)) (c5 : w.cell? ⟨B, o + 5, none⟩ = some (.int .i64 loss)) (hs : ∀ i, i < ns → w.cell? ⟨gs, i, none⟩ = some (.int .u32 (s.getD i 0)))
 (ps : pats s) (sl : s.length = ns) (n1 : 1 ≤ ns) (ns4 : ns ≤ 4) (cs1 : ns ≤ cs) (cs2 : cs ≤ 1000) :
 Calls Tryz.prog 115 #[.pointer (some ⟨B, o, none⟩)] w fun e w' => ∃ gh ch : Nat, e = .returned (.slice (some ⟨gh, 0, none⟩) ns ch) ∧ (gh = gs ∨ w.heap.size ≤ gh) ∧ gh < w'.heap.size ∧ (∀ i, i < ns → w'.cell? ⟨gh, i, none⟩ = some (.int .u32 ((HLD loss s).getD i 0))) ∧ Below w.heap.size w w' := by
 by_cases h : loss = 1
 · have R : Hid (HLD loss s = SHR s (MST s (ns - 1)) (ZED s (MST s (ns - 1)) ns) ns) := by show _ = _; unfold HLD; rw [if_pos h, sl]
   have X : Hid (Calls Tryz.prog 126 #[.pointer (some ⟨B, o, none⟩)] w fun e w' => e = .returned (.slice (some ⟨w.heap.size, 0, none⟩) ns ns) ∧ w'.heap[w.heap.size]? = some (.cells (u32s (HLD loss s)) 29 (0, 0)) ∧ Below w.heap.size w w') := by
    show Calls _ _ _ _ _
    rw [R.out]; exact shares_any B o gs ns cs s w hBl hgl c1 c4 hs ps n1 ns4 cs1 cs2
   have HN : Hid ((HLD loss s).length = ns) := by show _ = _; rw [R.out]; exact SHR_len _ _ _ _
   obtain ⟨H, hH⟩ : ∃ H, H = HLD loss s := ⟨_, rfl⟩
   rw [← hH] at X HN ⊢
   subst h
   clear hH R hs
   go_enter Tryz.func115, Tryz.ntmps115
   go_wp2_with (first | (go_at_call 126; refine X.out.mono ?_; rintro e w6 ⟨rfl, h6, hb⟩; have H6 : Hid _ := h6; have B6 : Hid _ := hb; clear h6 hb))
   go_ret
   exact ⟨_, _, rfl, Or.inr (Nat.le_refl _), lt_of_heap H6.out, fun i hi => (cell_of_block H6.out i).trans (u32s_at H i (by rw [HN.out]; exact hi)), B6.out⟩
 · have R : Hid (HLD loss s = s) := by show _ = _; unfold HLD; rw [if_neg h]
   have g1 : (loss == 1) = false := by simpa using h
   have HS : Hid _ := hs
   have HG : Hid _ := hgl
   rw [R.out]
   clear h hs hgl hBl R
   go_enter Tryz.func115, Tryz.ntmps115
   go_wp2
   go_ret
   exact ⟨_, _, rfl, Or.inl rfl, HG.out, HS.out, Below.refl _ _⟩
theorem WRG_at (p y : List Int) (k i : Nat) (h : i < k) : (WRG p y k).getD i 0 = SUB (p.getD i 0) (y.getD i 0) := by
 unfold WRG; rw [List.getD_eq_getElem?_getD, List.getElem?_map, List.getElem?_range h]; rfl
theorem HLD_pats {s : List Int} (h : pats s) (loss : Int) : pats (HLD loss s) := by
 unfold HLD
 split
 · exact SHR_pats _ _ _ _
 · exact h
set_option maxHeartbeats 4000000 in
set_option maxRecDepth 100000 in
theorem lerrors_any (B o gs gy oy cy ns cs : Nat) (loss : Int) (s y : List Int) (w : World) (hBl : B < w.heap.size) (hgl : gs < w.heap.size) (hyl : gy < w.heap.size)
 (c1 : w.cell? ⟨B, o + 1, none⟩ = some (.int .i64 (ns : Int))) (c4 : w.cell? ⟨B, o + 4, none⟩ = some (.slice (some ⟨gs, 0, none⟩) ns cs)) (c5 : w.cell? ⟨B, o + 5, none⟩ = some (.int .i64 loss)) (hs : ∀ i, i < ns → w.cell? ⟨gs, i, none⟩ = some (.int .u32 (s.getD i 0)))
 (hy : ∀ i, i < ns → w.cell? ⟨gy, oy + i, none⟩ = some (.int .u32 (y.getD i 0)))
 (ps : pats s) (py : pats y) (sl : s.length = ns) (n1 : 1 ≤ ns) (ns4 : ns ≤ 4) (cs1 : ns ≤ cs) (cs2 : cs ≤ 1000) (oy4 : oy ≤ 1000) :
 Calls Tryz.prog 87 #[.pointer (some ⟨B, o, none⟩), .slice (some ⟨gy, oy, none⟩) ns cy] w fun e w' => e = .returned (.slice (some ⟨w.heap.size, 0, none⟩) ns ns) ∧ w'.heap[w.heap.size]? = some (.cells (u32s (WRONG loss s y)) 29 (0, 0)) ∧ Below w.heap.size w w' := by
 obtain ⟨j0, ji, jz0, jz1, jz2⟩ := info_three Tryz.infoU
 have HE : Hid (∀ V, Below w.heap.size w V → Calls Tryz.prog 115 #[.pointer (some ⟨B, o, none⟩)] V fun e w' => ∃ gh ch : Nat, e = .returned (.slice (some ⟨gh, 0, none⟩) ns ch) ∧ (gh = gs ∨ V.heap.size ≤ gh) ∧ gh < w'.heap.size ∧ (∀ i, i < ns → w'.cell? ⟨gh, i, none⟩ = some (.int .u32 ((HLD loss s).getD i 0))) ∧ Below V.heap.size V w') := fun V h =>
  held_any B o gs ns cs loss s V (Nat.lt_of_lt_of_le hBl h.size) (Nat.lt_of_lt_of_le hgl h.size) ((h.cell (p := ⟨B, o + 1, none⟩) hBl).trans c1) ((h.cell (p := ⟨B, o + 4, none⟩) hBl).trans c4) ((h.cell (p := ⟨B, o + 5, none⟩) hBl).trans c5) (fun i hi => (h.cell (p := ⟨gs, i, none⟩) hgl).trans (hs i hi)) ps sl n1 ns4 cs1 cs2
 have HPS : Hid (pats (HLD loss s)) := HLD_pats ps loss
 have HPY : Hid _ := py
 have HW : Hid (WRONG loss s y = WRG (HLD loss s) y ns) := by show _ = _; unfold WRONG; rw [sl]
 obtain ⟨H, hH⟩ : ∃ H, H = HLD loss s := ⟨_, rfl⟩
 rw [HW.out]
 rw [← hH] at HE HPS ⊢
 have HY : Hid _ := hy
 have HYL : Hid _ := hyl
 have HGS : Hid _ := hgl
 obtain ⟨G, hG⟩ : ∃ G, G = w.heap.size := ⟨_, rfl⟩
 rw [← hG]
 have HG : Hid _ := hG
 clear hs hy ps py c4 c5 hG hH HW hBl hgl hyl
 go_enter Tryz.func87, Tryz.ntmps87
 go_wp2_with (first
  | (at_make; refine wpList_make_full _ rfl _ _ 43 rfl w.heap.size 29 j0 _ 1 Tryz.under43 ji jz0 jz1 _ _ _ _ ns rfl rfl rfl rfl (by rw [jz2]; omega) (by unfold maxLen; omega) (Nat.le_refl _) ?_
     intro w1 hown hgr
     rw [Nat.mul_one] at hown
     have BW1 : Hid (Below w.heap.size w w1) := (Below.refl _ _).grown hgr (Nat.le_refl _) (by simp)
     have H1 : Hid (w1.heap[w.heap.size]? = some (.cells (u32s (List.replicate ns 0)) 29 (0, 0))) := made_u32 hown
     clear hown hgr)
  | (go_at_call 115; refine (HE.out _ BW1.out).mono ?_; rintro e w2 ⟨gh, ch, rfl, hor, hl, hc, hb⟩
     have GC : Hid _ := hc
     have GHL : Hid _ := hl
     have H2 : Hid (w2.heap[w.heap.size]? = some (.cells (u32s (List.replicate ns 0)) 29 (0, 0))) := (hb.block _ (lt_of_heap H1.out)).trans H1.out
     have B2 : Hid (Below w.heap.size w w2) := BW1.out.trans (hb.mono BW1.out.size)
     have NE : Hid (gh ≠ w.heap.size) := by
      have g1 := HGS.out; have g2 := lt_of_heap H1.out
      show ¬ _; omega
     clear hl hc hb hor))
 rw [← HG.out] at H2 B2 NE ⊢
 clear HE c1 ji jz0 jz1 jz2 H1 BW1
 go_loopw [17] (fun iv wr => ∃ i : Nat, i ≤ ns ∧ iv = .int .i64 i ∧ ∃ l : List Int, Hid (l.length = ns) ∧ Hid (∀ k, k < i → l.getD k 0 = SUB (H.getD k 0) (y.getD k 0)) ∧ Hid (wr.heap[G]? = some (.cells (u32s l) 29 (0, 0))) ∧ Hid (But (fun k => k = G) w2 wr) ∧ Hid (Below G w wr)) (fun iv _ => ns - (intOf iv).toNat)
 case atStart => exact ⟨0, by omega, rfl, List.replicate ns 0, List.length_replicate, fun k hk => absurd hk (by omega), H2.out, But.refl _ _, B2.out⟩
 case round =>
  clear H2 B2
  obtain ⟨i, hi, rfl, l, LL, LI, HL, UW, BW⟩ := hrel
  by_cases hlt : i < ns
  · have si : wr.cell? ⟨gh, i, none⟩ = some (.int .u32 (H.getD i 0)) := (UW.out.cell GHL.out NE.out i).trans (GC.out i hlt)
    have yi : wr.cell? ⟨gy, oy + i, none⟩ = some (.int .u32 (y.getD i 0)) := (BW.out.cell (p := ⟨gy, oy + i, none⟩) (Nat.lt_of_lt_of_eq HYL.out HG.out.symm)).trans (HY.out i hlt)
    have sb := pats_at HPS.out i
    have yb := pats_at HPY.out i
    obtain ⟨sv, hsv⟩ : ∃ v, v = H.getD i 0 := ⟨_, rfl⟩
    obtain ⟨yv, hyv⟩ : ∃ v, v = y.getD i 0 := ⟨_, rfl⟩
    have SV : Hid _ := hsv
    have YV : Hid _ := hyv
    rw [← hsv] at si sb
    rw [← hyv] at yi yb
    have X1 : Hid (∀ V, Calls Tryz.prog 64 #[.int .u32 sv, .int .u32 yv] V fun e w' => e = .returned (.int .u32 (SUB sv yv)) ∧ w' = V) := fun V => sub_any sv yv V sb.1 sb.2 yb.1 yb.2
    have il : (i : Int) < (ns : Int) := by omega
    have i0 : (0 : Int) ≤ (i : Int) := by omega
    have ai : wr.cell? ⟨G, i, none⟩ = some (.int .u32 (l.getD i 0)) := (cell_of_block HL.out _).trans (u32s_at l i (by rw [LL.out]; exact hlt))
    have fi : wr.frozen? ⟨G, i, none⟩ = false := unfrozen_of_block HL.out _
    clear hsv hyv
    go_wp2_with (first | (go_at_call 64; refine (X1.out _).mono ?_; rintro e w6 ⟨rfl, hw'⟩; subst w6))
    go_roundw
    case rel =>
     refine ⟨i + 1, by omega, by go_num, l.set i (SUB sv yv), ?_, fun k hk => ?_, ?_, UW.out.trans (But.set _ G i _ rfl), BW.out.setCell (p := ⟨G, i, none⟩) (Nat.le_refl _) _⟩
     · show _ = _; rw [List.length_set]; exact LL.out
     · rw [getD_set]
       by_cases e : i = k
       · rw [if_pos ⟨e, by rw [LL.out]; exact hlt⟩, SV.out, YV.out, e]
       · rw [if_neg (fun h => e h.1)]; exact LI.out k (by omega)
     · show _ = _; rw [heap_set _ G i _ _ 29 _ HL.out, u32s_set]
    case measure => simp [intOf]; omega
  · have hie : ns = i := by omega
    have R : Hid (wr.heap[G]? = some (.cells (u32s (WRG H y ns)) 29 (0, 0))) := by
     show _ = _
     rw [HL.out]
     have e : l = WRG H y ns := by
      apply List.ext_getElem
      · rw [LL.out]; simp [WRG]
      · intro k h1 h2
        have := LI.out k (by rw [LL.out] at h1; omega)
        rw [List.getD_eq_getElem?_getD, List.getElem?_eq_getElem h1] at this
        simpa [WRG] using this
     rw [e]
    clear hie
    go_wp2
    go_ret
    exact ⟨rfl, R.out, BW.out⟩
end Go.Proofs.YtoihkljlekknkaaGreat
/-
  A hidden layer's errors, and each slope multiplied, of the program. Conditions: the patterns are 0 to 2^32 - 1; the numbers are small.
-/
namespace Go.Proofs.YtoihkljlekknkaaGreat
open Go.RowKit
open Go.Joins (cell_of_block unfrozen_of_block)
set_option linter.unusedVariables false
set_option linter.unusedSimpArgs false
/-- a list told by its elements -/
theorem list_of (l : List Int) (n : Nat) (f : Nat → Int) (hn : l.length = n) (h : ∀ k, k < n → l.getD k 0 = f k) : l = (List.range n).map f := by
 apply List.ext_getElem
 · simp [hn]
 · intro k h1 h2
   have := h k (by omega)
   rw [List.getD_eq_getElem?_getD, List.getElem?_eq_getElem h1] at this
   simpa using this
/-- a hidden layer's errors -/
def ERS (bend : Int) (bl s a : List Int) (n : Nat) : List Int := (List.range n).map fun k => SLP bend (bl.getD k 0) (s.getD k 0) (a.getD k 0)
set_option maxHeartbeats 4000000 in
set_option maxRecDepth 100000 in
theorem berrors_any (B o ga gs gb cb ca cs ns : Nat) (bend : Int) (bl s a : List Int) (w : World) (hBl : B < w.heap.size) (hal : ga < w.heap.size) (hsl : gs < w.heap.size) (hbl : gb < w.heap.size)
 (c1 : w.cell? ⟨B, o + 1, none⟩ = some (.int .i64 (ns : Int))) (c4 : w.cell? ⟨B, o + 4, none⟩ = some (.slice (some ⟨gs, 0, none⟩) ns cs)) (c5 : w.cell? ⟨B, o + 5, none⟩ = some (.int .i64 bend)) (c6 : w.cell? ⟨B, o + 6, none⟩ = some (.slice (some ⟨ga, 0, none⟩) ns ca))
 (hs : ∀ i, i < ns → w.cell? ⟨gs, i, none⟩ = some (.int .u32 (s.getD i 0))) (ha : ∀ i, i < ns → w.cell? ⟨ga, i, none⟩ = some (.int .u32 (a.getD i 0))) (hb : ∀ i, i < ns → w.cell? ⟨gb, i, none⟩ = some (.int .u32 (bl.getD i 0)))
 (ps : pats s) (pa : pats a) (pb : pats bl) (ns4 : ns ≤ 4) :
 Calls Tryz.prog 89 #[.pointer (some ⟨B, o, none⟩), .slice (some ⟨gb, 0, none⟩) ns cb] w fun e w' => e = .returned (.slice (some ⟨w.heap.size, 0, none⟩) ns ns) ∧ w'.heap[w.heap.size]? = some (.cells (u32s (ERS bend bl s a ns)) 29 (0, 0)) ∧ Below w.heap.size w w' := by
 obtain ⟨j0, ji, jz0, jz1, jz2⟩ := info_three Tryz.infoU
 have HE : Hid (∀ V, Below w.heap.size w V → ∀ i : Nat, i < ns → Calls Tryz.prog 117 #[.pointer (some ⟨B, o, none⟩), .int .i64 (i : Int), .int .u32 (bl.getD i 0)] V fun e w' => e = .returned (.int .u32 (SLP bend (bl.getD i 0) (s.getD i 0) (a.getD i 0))) ∧ w' = V) := fun V h i hi =>
  error_any B o ga gs ns ca ns cs i bend _ _ _ V (pats_at pb i) (pats_at ps i) (pats_at pa i) hi hi ns4 ns4 ((h.cell (p := ⟨B, o + 5, none⟩) hBl).trans c5) ((h.cell (p := ⟨B, o + 6, none⟩) hBl).trans c6) ((h.cell (p := ⟨B, o + 4, none⟩) hBl).trans c4) ((h.cell (p := ⟨ga, i, none⟩) hal).trans (ha i hi)) ((h.cell (p := ⟨gs, i, none⟩) hsl).trans (hs i hi))
 have HB : Hid _ := hb
 have HBL : Hid _ := hbl
 obtain ⟨F, hF⟩ : ∃ F : Nat → Int, F = fun k => SLP bend (bl.getD k 0) (s.getD k 0) (a.getD k 0) := ⟨_, rfl⟩
 have FI : Hid (∀ k, SLP bend (bl.getD k 0) (s.getD k 0) (a.getD k 0) = F k) := fun k => by rw [hF]
 have ER : Hid (ERS bend bl s a ns = (List.range ns).map F) := by show _ = _; rw [hF]; rfl
 rw [ER.out]
 obtain ⟨G, hG⟩ : ∃ G, G = w.heap.size := ⟨_, rfl⟩
 rw [← hG]
 have HG : Hid _ := hG
 clear hs ha hb ps pa pb c4 c5 c6 hG hF ER hBl hal hsl hbl
 go_enter Tryz.func89, Tryz.ntmps89
 go_wp2_with (first
  | (at_make; refine wpList_make_full _ rfl _ _ 43 rfl w.heap.size 29 j0 _ 1 Tryz.under43 ji jz0 jz1 _ _ _ _ ns rfl rfl rfl rfl (by rw [jz2]; omega) (by unfold maxLen; omega) (Nat.le_refl _) ?_
     intro w1 hown hgr
     rw [Nat.mul_one] at hown
     have BW1 : Hid (Below w.heap.size w w1) := (Below.refl _ _).grown hgr (Nat.le_refl _) (by simp)
     have H1 : Hid (w1.heap[w.heap.size]? = some (.cells (u32s (List.replicate ns 0)) 29 (0, 0))) := made_u32 hown
     clear hown hgr))
 rw [← HG.out] at H1 BW1 HE ⊢
 clear c1 ji jz0 jz1 jz2
 go_loopw [16] (fun iv wr => ∃ i : Nat, i ≤ ns ∧ iv = .int .i64 i ∧ ∃ l : List Int, Hid (l.length = ns) ∧ Hid (∀ k, k < i → l.getD k 0 = F k) ∧ Hid (wr.heap[G]? = some (.cells (u32s l) 29 (0, 0))) ∧ Hid (Below G w wr)) (fun iv _ => ns - (intOf iv).toNat)
 case atStart => exact ⟨0, by omega, rfl, List.replicate ns 0, List.length_replicate, fun k hk => absurd hk (by omega), H1.out, BW1.out⟩
 case round =>
  clear H1 BW1
  obtain ⟨i, hi, rfl, l, LL, LI, HL, BW⟩ := hrel
  by_cases hlt : i < ns
  · have bi : wr.cell? ⟨gb, i, none⟩ = some (.int .u32 (bl.getD i 0)) := (BW.out.cell (p := ⟨gb, i, none⟩) (Nat.lt_of_lt_of_eq HBL.out HG.out.symm)).trans (HB.out i hlt)
    have X1 : Hid (Calls Tryz.prog 117 #[.pointer (some ⟨B, o, none⟩), .int .i64 (i : Int), .int .u32 (bl.getD i 0)] wr fun e w' => e = .returned (.int .u32 (F i)) ∧ w' = wr) := by
     have := HE.out wr BW.out i hlt
     rw [FI.out i] at this; exact this
    obtain ⟨bv, hbv⟩ : ∃ v, v = bl.getD i 0 := ⟨_, rfl⟩
    rw [← hbv] at bi X1
    obtain ⟨fv, hfv⟩ : ∃ v, v = F i := ⟨_, rfl⟩
    have FV : Hid _ := hfv
    rw [← hfv] at X1
    have il : (i : Int) < (ns : Int) := by omega
    have i0 : (0 : Int) ≤ (i : Int) := by omega
    have ai : wr.cell? ⟨G, i, none⟩ = some (.int .u32 (l.getD i 0)) := (cell_of_block HL.out _).trans (u32s_at l i (by rw [LL.out]; exact hlt))
    have fi : wr.frozen? ⟨G, i, none⟩ = false := unfrozen_of_block HL.out _
    clear hbv hfv
    go_wp2_with (first | (go_at_call 117; refine X1.out.mono ?_; rintro e w6 ⟨rfl, hw'⟩; subst w6))
    go_roundw
    case rel =>
     refine ⟨i + 1, by omega, by go_num, l.set i fv, ?_, fun k hk => ?_, ?_, BW.out.setCell (p := ⟨G, i, none⟩) (Nat.le_refl _) _⟩
     · show _ = _; rw [List.length_set]; exact LL.out
     · rw [getD_set]
       by_cases e : i = k
       · rw [if_pos ⟨e, by rw [LL.out]; exact hlt⟩, FV.out, e]
       · rw [if_neg (fun h => e h.1)]; exact LI.out k (by omega)
     · show _ = _; rw [heap_set _ G i _ _ 29 _ HL.out, u32s_set]
    case measure => simp [intOf]; omega
  · have hie : ns = i := by omega
    have R : Hid (wr.heap[G]? = some (.cells (u32s ((List.range ns).map F)) 29 (0, 0))) := by
     show _ = _
     rw [HL.out, list_of l ns F LL.out fun k hk => LI.out k (by omega)]
    clear hie
    go_wp2
    go_ret
    exact ⟨rfl, R.out, BW.out⟩
/-- each of them multiplied -/
def SCL (l : List Int) (by' : Int) : List Int := (List.range l.length).map fun k => MUL (l.getD k 0) by'
set_option maxHeartbeats 4000000 in
set_option maxRecDepth 100000 in
theorem scale_any (gl cl : Nat) (L : List Int) (v : Int) (w : World) (hl : w.heap[gl]? = some (.cells (u32s L) 29 (0, 0))) (pL : pats L) (hv : 0 ≤ v ∧ v < 4294967296) (np4 : L.length ≤ 1000) :
 Calls Tryz.prog 57 #[.slice (some ⟨gl, 0, none⟩) L.length cl, .int .u32 v] w fun e w' => e = .returned (.tuple #[]) ∧ w'.heap[gl]? = some (.cells (u32s (SCL L v)) 29 (0, 0)) ∧ But (fun k => k = gl) w w' := by
 obtain ⟨F, hF⟩ : ∃ F : Nat → Int, F = fun k => MUL (L.getD k 0) v := ⟨_, rfl⟩
 have FI : Hid (∀ k, MUL (L.getD k 0) v = F k) := fun k => by rw [hF]
 have ER : Hid (SCL L v = (List.range L.length).map F) := by show _ = _; rw [hF]; rfl
 rw [ER.out]
 have HP : Hid _ := pL
 have HL0 : Hid _ := hl
 obtain ⟨n, hn⟩ : ∃ n, n = L.length := ⟨_, rfl⟩
 have HN : Hid (L.length = n) := hn.symm
 rw [← hn] at np4 ⊢
 clear hF ER pL hl hn
 go_enter Tryz.func57, Tryz.ntmps57
 go_wp2
 go_loopw [8] (fun iv wr => ∃ i : Nat, i ≤ n ∧ iv = .int .i64 i ∧ ∃ l : List Int, Hid (l.length = n) ∧ Hid (∀ k, k < i → l.getD k 0 = F k) ∧ Hid (∀ k, i ≤ k → l.getD k 0 = L.getD k 0) ∧ Hid (wr.heap[gl]? = some (.cells (u32s l) 29 (0, 0))) ∧ Hid (But (fun k => k = gl) w wr)) (fun iv _ => n - (intOf iv).toNat)
 case atStart => exact ⟨0, by omega, rfl, L, HN.out, fun k hk => absurd hk (by omega), fun _ _ => rfl, HL0.out, But.refl _ _⟩
 case round =>
  clear HL0
  obtain ⟨i, hi, rfl, l, LL, LI, LJ, HL, UW⟩ := hrel
  by_cases hlt : i < n
  · have ai : wr.cell? ⟨gl, i, none⟩ = some (.int .u32 (L.getD i 0)) := by rw [cell_of_block HL.out, u32s_at l i (by rw [LL.out]; exact hlt), LJ.out i (Nat.le_refl _)]
    have fi : wr.frozen? ⟨gl, i, none⟩ = false := unfrozen_of_block HL.out _
    have gb := pats_at HP.out i
    have X1 : Hid (∀ V, Calls Tryz.prog 61 #[.int .u32 (L.getD i 0), .int .u32 v] V fun e w' => e = .returned (.int .u32 (F i)) ∧ w' = V) := fun V => by rw [← FI.out i]; exact mul_any _ _ V gb.1 gb.2 hv.1 hv.2
    obtain ⟨gv, hgv⟩ : ∃ v, v = L.getD i 0 := ⟨_, rfl⟩
    rw [← hgv] at ai gb X1
    obtain ⟨fv, hfv⟩ : ∃ v, v = F i := ⟨_, rfl⟩
    have FV : Hid _ := hfv
    rw [← hfv] at X1
    have il : (i : Int) < (n : Int) := by omega
    have i0 : (0 : Int) ≤ (i : Int) := by omega
    clear hgv hfv
    go_wp2_with (first | (go_at_call 61; refine (X1.out _).mono ?_; rintro e w6 ⟨rfl, hw'⟩; subst w6))
    go_roundw
    case rel =>
     refine ⟨i + 1, by omega, by go_num, l.set i fv, ?_, fun k hk => ?_, fun k hk => ?_, ?_, UW.out.trans (But.set _ gl i _ rfl)⟩
     · show _ = _; rw [List.length_set]; exact LL.out
     · rw [getD_set]
       by_cases e : i = k
       · rw [if_pos ⟨e, by rw [LL.out]; exact hlt⟩, FV.out, e]
       · rw [if_neg (fun h => e h.1)]; exact LI.out k (by omega)
     · rw [getD_set, if_neg (fun h => by omega)]; exact LJ.out k (by omega)
     · show _ = _; rw [heap_set _ gl i _ _ 29 _ HL.out, u32s_set]
    case measure => simp [intOf]; omega
  · have hie : n = i := by omega
    have R : Hid (wr.heap[gl]? = some (.cells (u32s ((List.range n).map F)) 29 (0, 0))) := by
     show _ = _
     rw [HL.out, list_of l n F LL.out fun k hk => LI.out k (by omega)]
    clear hie
    go_wp2
    go_end0
    exact ⟨rfl, R.out, UW.out⟩
end Go.Proofs.YtoihkljlekknkaaGreat
/-
  Slopes that are too long, of the program. Conditions: the patterns are 0 to 2^32 - 1; the numbers are small.
-/
namespace Go.Proofs.YtoihkljlekknkaaGreat
open Go.RowKit
open Go.Joins (cell_of_block unfrozen_of_block)
set_option linter.unusedVariables false
set_option linter.unusedSimpArgs false
theorem SQRT_bd (a : Int) (h : 0 ≤ a ∧ a < 4294967296) : 0 ≤ SQRT a ∧ SQRT a < 4294967296 := by
 have h2 : 0 ≤ SQ a ∧ SQ a ≤ 2139095040 := RI_bd _ _
 unfold SQRT
 split
 · exact h
 · split
   · omega
   · split
     · exact h
     · omega
/-- the squares' sum -/
def SQS (L : List Int) : Nat → Int
 | 0 => 0
 | i + 1 => ADD (SQS L i) (MUL (L.getD i 0) (L.getD i 0))
theorem SQS_bd (L : List Int) (i : Nat) : 0 ≤ SQS L i ∧ SQS L i < 4294967296 := by
 induction i with
 | zero => exact ⟨by show (0 : Int) ≤ 0; omega, by show (0 : Int) < _; omega⟩
 | succ i ih => have := MUL_bd' (L.getD i 0) (L.getD i 0); exact ADD_bd _ _ ih.1 ih.2 this.1 this.2
/-- shortened where they are too long -/
def CLP (L : List Int) (v : Int) : List Int := if LESS 0 v = true then (if LESS v (SQRT (SQS L L.length)) = true then SCL L (DIV v (SQRT (SQS L L.length))) else L) else L
set_option maxHeartbeats 4000000 in
set_option maxRecDepth 100000 in
theorem clip_any (gl cl : Nat) (L : List Int) (v : Int) (w : World) (hl : w.heap[gl]? = some (.cells (u32s L) 29 (0, 0))) (pL : pats L) (hv : 0 ≤ v ∧ v < 4294967296) (np4 : L.length ≤ 1000) :
 Calls Tryz.prog 28 #[.slice (some ⟨gl, 0, none⟩) L.length cl, .int .u32 v] w fun e w' => e = .returned (.tuple #[]) ∧ w'.heap[gl]? = some (.cells (u32s (CLP L v)) 29 (0, 0)) ∧ But (fun k => k = gl) w w' := by
 have HL0 : Hid _ := hl
 have HP : Hid _ := pL
 have X0 : Hid (∀ V, Calls Tryz.prog 60 #[.int .u32 0, .int .u32 v] V fun e w' => e = .returned (.bool (LESS 0 v)) ∧ w' = V) := fun V => less_any 0 v V (by decide) (by decide) hv.1 hv.2
 cases h0 : LESS 0 v
 · have R : Hid (CLP L v = L) := by show _ = _; unfold CLP; rw [if_neg (by rw [h0]; simp)]
   rw [R.out]
   rw [h0] at X0
   clear h0 R hl pL
   go_enter Tryz.func28, Tryz.ntmps28
   go_wp2_with (first | (go_at_call 60; refine (X0.out _).mono ?_; rintro e w6 ⟨rfl, hw'⟩; subst w6))
   refine bodyPost_ret (results_none rfl _ _ _) rfl ?_
   exact ⟨rfl, HL0.out, But.refl _ _⟩
 · have R : Hid (CLP L v = if LESS v (SQRT (SQS L L.length)) = true then SCL L (DIV v (SQRT (SQS L L.length))) else L) := by show _ = _; unfold CLP; rw [if_pos h0]
   rw [h0] at X0
   have SC : Hid (∀ (V : World) (x : Int), V.heap[gl]? = some (.cells (u32s L) 29 (0, 0)) → 0 ≤ x ∧ x < 4294967296 → Calls Tryz.prog 57 #[.slice (some ⟨gl, 0, none⟩) L.length cl, .int .u32 x] V fun e w' => e = .returned (.tuple #[]) ∧ w'.heap[gl]? = some (.cells (u32s (SCL L x)) 29 (0, 0)) ∧ But (fun k => k = gl) V w') := fun V x hV hx => scale_any gl cl L x V hV pL hx np4
   obtain ⟨Y, hY⟩ : ∃ Y, Y = CLP L v := ⟨_, rfl⟩
   rw [← hY] at R ⊢
   have CC : Hid (∀ i, i < L.length → w.cell? ⟨gl, i, none⟩ = some (.int .u32 (L.getD i 0))) := fun i hi => (cell_of_block hl i).trans (u32s_at L i hi)
   have qb := SQS_bd L L.length
   have rb := SQRT_bd _ qb
   have XS : Hid (∀ V, Calls Tryz.prog 62 #[.int .u32 (SQS L L.length)] V fun e w' => e = .returned (.int .u32 (SQRT (SQS L L.length))) ∧ w' = V) := fun V => sqrt_any _ V qb.1 qb.2
   obtain ⟨n, hn⟩ : ∃ n, n = L.length := ⟨_, rfl⟩
   rw [← hn] at np4 R SC CC qb rb XS ⊢
   obtain ⟨q, hq⟩ : ∃ q, q = SQS L n := ⟨_, rfl⟩
   rw [← hq] at R qb rb XS
   obtain ⟨r, hr⟩ : ∃ r, r = SQRT q := ⟨_, rfl⟩
   rw [← hr] at R rb XS
   have HQ : Hid (SQS L n = q) := hq.symm
   have XL : Hid (∀ V, Calls Tryz.prog 60 #[.int .u32 v, .int .u32 r] V fun e w' => e = .returned (.bool (LESS v r)) ∧ w' = V) := fun V => less_any v r V hv.1 hv.2 rb.1 rb.2
   have XD : Hid (∀ V, Calls Tryz.prog 58 #[.int .u32 v, .int .u32 r] V fun e w' => e = .returned (.int .u32 (DIV v r)) ∧ ∃ n, w' = V.drewN n) := fun V => div_any v r V hv.1 hv.2 rb.1 rb.2
   have db := DIV_bdQ v r
   obtain ⟨d, hd⟩ : ∃ d, d = DIV v r := ⟨_, rfl⟩
   rw [← hd] at R XD db
   clear h0 hl pL hY hn hq hr hd
   go_enter Tryz.func28, Tryz.ntmps28
   go_wp2_with (first | (go_at_call 60; refine (X0.out _).mono ?_; rintro e w6 ⟨rfl, hw'⟩; subst w6))
   go_loop [4, 13] (fun tv iv => ∃ i : Nat, i ≤ n ∧ iv = .int .i64 i ∧ tv = .int .u32 (SQS L i)) (fun _ iv => n - (intOf iv).toNat)
   case atStart => exact ⟨0, by omega, rfl, rfl⟩
   case round =>
    obtain ⟨i, hi, rfl, rfl⟩ := hrel
    by_cases hlt : i < n
    · have ai : w.cell? ⟨gl, i, none⟩ = some (.int .u32 (L.getD i 0)) := CC.out i hlt
      have gb := pats_at HP.out i
      have tb := SQS_bd L i
      have SU : Hid (SQS L (i + 1) = ADD (SQS L i) (MUL (L.getD i 0) (L.getD i 0))) := rfl
      obtain ⟨gv, hgv⟩ : ∃ v, v = L.getD i 0 := ⟨_, rfl⟩
      obtain ⟨tv, htv⟩ : ∃ v, v = SQS L i := ⟨_, rfl⟩
      rw [← hgv] at ai gb SU
      rw [← htv] at tb SU ⊢
      have mb := MUL_bd' gv gv
      have X1 : Hid (∀ V, Calls Tryz.prog 61 #[.int .u32 gv, .int .u32 gv] V fun e w' => e = .returned (.int .u32 (MUL gv gv)) ∧ w' = V) := fun V => mul_any gv gv V gb.1 gb.2 gb.1 gb.2
      obtain ⟨mv, hmv⟩ : ∃ v, v = MUL gv gv := ⟨_, rfl⟩
      rw [← hmv] at mb X1 SU
      have X2 : Hid (∀ V, Calls Tryz.prog 56 #[.int .u32 tv, .int .u32 mv] V fun e w' => e = .returned (.int .u32 (ADD tv mv)) ∧ w' = V) := fun V => add_any tv mv V tb.1 tb.2 mb.1 mb.2
      have il : (i : Int) < (n : Int) := by omega
      have i0 : (0 : Int) ≤ (i : Int) := by omega
      clear hgv htv hmv
      go_wp2_with (first
       | (go_at_call 61; refine (X1.out _).mono ?_; rintro e w6 ⟨rfl, hw'⟩; subst w6)
       | (go_at_call 56; refine (X2.out _).mono ?_; rintro e w6 ⟨rfl, hw'⟩; subst w6))
      go_round
      case rel => exact ⟨i + 1, by omega, by go_num, congrArg _ SU.out.symm⟩
      case measure => simp [intOf]; omega
    · have hie : i = n := by omega
      subst hie
      rw [HQ.out]
      clear hlt hi HQ
      cases hl : LESS v r
      · rw [hl] at XL R
        have R2 : Hid (Y = L) := R.out.trans (if_neg (by simp))
        clear hl R
        go_wp2_with (first
         | (go_at_call 62; refine (XS.out _).mono ?_; rintro e w6 ⟨rfl, hw'⟩; subst w6)
         | (go_at_call 60; refine (XL.out _).mono ?_; rintro e w6 ⟨rfl, hw'⟩; subst w6))
        go_end0
        exact ⟨rfl, by rw [R2.out]; exact HL0.out, But.refl _ _⟩
      · rw [hl] at XL R
        have R2 : Hid (Y = SCL L d) := R.out.trans (if_pos rfl)
        clear hl R
        go_wp2_with (first
         | (go_at_call 62; refine (XS.out _).mono ?_; rintro e w6 ⟨rfl, hw'⟩; subst w6)
         | (go_at_call 60; refine (XL.out _).mono ?_; rintro e w6 ⟨rfl, hw'⟩; subst w6)
         | (go_at_call 58; refine (XD.out _).mono ?_; rintro e w7 ⟨rfl, hn⟩
            have hb : Below w.heap.size w w7 := by obtain ⟨n, rfl⟩ := hn; exact Go.Joins.below_draws _ _ _
            have L7 : Hid (w7.heap[gl]? = some (.cells (u32s L) 29 (0, 0))) := (hb.block _ (lt_of_heap HL0.out)).trans HL0.out
            have U7 : Hid (But (fun k => k = gl) w w7) := But.below hb
            clear hb hn)
         | (go_at_call 57; refine (SC.out _ _ L7.out db).mono ?_; rintro e w8 ⟨rfl, h8, hb8⟩; have L8 : Hid _ := h8; have U8 : Hid _ := hb8; clear h8 hb8))
        go_end0
        exact ⟨rfl, by rw [R2.out]; exact L8.out, U7.out.trans U8.out⟩
end Go.Proofs.YtoihkljlekknkaaGreat
/-
  A hidden layer's answers, of the program. Conditions: the patterns are 0 to 2^32 - 1; the numbers are small; the blocks are apart.
-/
namespace Go.Proofs.YtoihkljlekknkaaGreat
open Go.RowKit
open Go.Joins (cell_of_block unfrozen_of_block)
set_option linter.unusedVariables false
set_option linter.unusedSimpArgs false
/-- a hidden layer's answers -/
def ANS (bend : Int) (s : List Int) (n : Nat) : List Int := (List.range n).map fun k => BNT bend (s.getD k 0)
set_option maxHeartbeats 4000000 in
set_option maxRecDepth 100000 in
theorem answer_any (B o ga gs ca cs ns : Nat) (bend : Int) (s A : List Int) (w : World) (hBl : B < w.heap.size) (hsl : gs < w.heap.size)
 (c4 : w.cell? ⟨B, o + 4, none⟩ = some (.slice (some ⟨gs, 0, none⟩) ns cs)) (c5 : w.cell? ⟨B, o + 5, none⟩ = some (.int .i64 bend)) (c6 : w.cell? ⟨B, o + 6, none⟩ = some (.slice (some ⟨ga, 0, none⟩) ns ca))
 (hs : ∀ i, i < ns → w.cell? ⟨gs, i, none⟩ = some (.int .u32 (s.getD i 0))) (ha : w.heap[ga]? = some (.cells (u32s A) 29 (0, 0))) (hA : A.length = ns) (n1 : B ≠ ga) (n2 : gs ≠ ga)
 (ps : pats s) (ns4 : ns ≤ 4) :
 Calls Tryz.prog 114 #[.pointer (some ⟨B, o, none⟩)] w fun e w' => e = .returned (.tuple #[]) ∧ w'.heap[ga]? = some (.cells (u32s (ANS bend s ns)) 29 (0, 0)) ∧ But (fun k => k = ga) w w' := by
 have C5 : Hid (∀ {V}, But (fun k => k = ga) w V → V.cell? ⟨B, o + 5, none⟩ = some (.int .i64 bend)) := fun {V} h => (h.cell hBl n1 _).trans c5
 have C6 : Hid (∀ {V}, But (fun k => k = ga) w V → V.cell? ⟨B, o + 6, none⟩ = some (.slice (some ⟨ga, 0, none⟩) ns ca)) := fun {V} h => (h.cell hBl n1 _).trans c6
 have HS : Hid (∀ {V}, But (fun k => k = ga) w V → ∀ i, i < ns → V.cell? ⟨gs, i, none⟩ = some (.int .u32 (s.getD i 0))) := fun {V} h i hi => (h.cell hsl n2 i).trans (hs i hi)
 have HP : Hid _ := ps
 have H0 : Hid _ := ha
 have HA : Hid _ := hA
 obtain ⟨F, hF⟩ : ∃ F : Nat → Int, F = fun k => BNT bend (s.getD k 0) := ⟨_, rfl⟩
 have FI : Hid (∀ k, BNT bend (s.getD k 0) = F k) := fun k => by rw [hF]
 have ER : Hid (ANS bend s ns = (List.range ns).map F) := by show _ = _; rw [hF]; rfl
 rw [ER.out]
 clear hF ER hs ha hA ps c5 c6 hBl hsl
 go_enter Tryz.func114, Tryz.ntmps114
 go_wp2
 go_loopw [10] (fun iv wr => ∃ i : Nat, i ≤ ns ∧ iv = .int .i64 i ∧ ∃ l : List Int, Hid (l.length = ns) ∧ Hid (∀ k, k < i → l.getD k 0 = F k) ∧ Hid (wr.heap[ga]? = some (.cells (u32s l) 29 (0, 0))) ∧ Hid (But (fun k => k = ga) w wr)) (fun iv _ => ns - (intOf iv).toNat)
 case atStart => exact ⟨0, by omega, rfl, A, HA.out, fun k hk => absurd hk (by omega), H0.out, But.refl _ _⟩
 case round =>
  clear H0
  obtain ⟨i, hi, rfl, l, LL, LI, HL, UW⟩ := hrel
  by_cases hlt : i < ns
  · have si : wr.cell? ⟨gs, i, none⟩ = some (.int .u32 (s.getD i 0)) := HS.out UW.out i hlt
    have sb := pats_at HP.out i
    have X1 : Hid (∀ V, But (fun k => k = ga) w V → Calls Tryz.prog 125 #[.pointer (some ⟨B, o, none⟩), .int .u32 (s.getD i 0)] V fun e w' => e = .returned (.int .u32 (F i)) ∧ Below V.heap.size V w') := fun V h => by
     rw [← FI.out i]; exact curve_any B o bend _ V sb.1 sb.2 (C5.out h)
    obtain ⟨sv, hsv⟩ : ∃ v, v = s.getD i 0 := ⟨_, rfl⟩
    obtain ⟨fv, hfv⟩ : ∃ v, v = F i := ⟨_, rfl⟩
    have FV : Hid _ := hfv
    rw [← hsv] at si sb X1
    rw [← hfv] at X1
    have il : (i : Int) < (ns : Int) := by omega
    have i0 : (0 : Int) ≤ (i : Int) := by omega
    have d6 : wr.cell? ⟨B, o + 6, none⟩ = some (.slice (some ⟨ga, 0, none⟩) ns ca) := C6.out UW.out
    have UD : Hid (∀ n, But (fun k => k = ga) w (wr.drewN n)) := fun n => UW.out.trans (But.below (Go.Joins.below_draws _ _ _))
    have LD : Hid (∀ n, (wr.drewN n).heap[ga]? = some (.cells (u32s l) 29 (0, 0))) := fun n => HL.out
    clear hsv hfv
    go_upto_region 3 with fail
    go_region_with (first
     | (go_at_call 125; refine (X1.out _ (UD.out 1)).mono ?_; rintro e w5 ⟨rfl, hb⟩
        have L5 : Hid (w5.heap[ga]? = some (.cells (u32s l) 29 (0, 0))) := (hb.block _ (lt_of_heap (LD.out 1))).trans (LD.out 1)
        have U5 : Hid (But (fun k => k = ga) w w5) := (UD.out 1).trans (But.below hb)
        have e6 : w5.cell? ⟨B, o + 6, none⟩ = some (.slice (some ⟨ga, 0, none⟩) ns ca) := C6.out U5.out
        have a5 : w5.cell? ⟨ga, i, none⟩ = some (.int .u32 (l.getD i 0)) := (cell_of_block L5.out _).trans (u32s_at l i (by rw [LL.out]; exact hlt))
        have f5 : w5.frozen? ⟨ga, i, none⟩ = false := unfrozen_of_block L5.out _
        clear hb))
    all_goals
     go_wp2
     go_roundw
     case rel =>
      refine ⟨i + 1, by omega, by go_num, l.set i fv, ?_, fun k hk => ?_, ?_, U5.out.trans (But.set _ ga i _ rfl)⟩
      · show _ = _; rw [List.length_set]; exact LL.out
      · rw [getD_set]
        by_cases e : i = k
        · rw [if_pos ⟨e, by rw [LL.out]; exact hlt⟩, FV.out, e]
        · rw [if_neg (fun h => e h.1)]; exact LI.out k (by omega)
      · show _ = _; rw [heap_set _ ga i _ _ 29 _ L5.out, u32s_set]
     case measure => simp [intOf]; omega
  · have hie : ns = i := by omega
    have R : Hid (wr.heap[ga]? = some (.cells (u32s ((List.range ns).map F)) 29 (0, 0))) := by
     show _ = _
     rw [HL.out, list_of l ns F LL.out fun k hk => LI.out k (by omega)]
    clear hie
    go_wp2
    go_end0
    exact ⟨rfl, R.out, UW.out⟩
end Go.Proofs.YtoihkljlekknkaaGreat
/-
  What the units of the layer ahead are blamed for, of the program. Conditions: the patterns are 0 to 2^32 - 1; the numbers are small.
-/
namespace Go.Proofs.YtoihkljlekknkaaGreat
open Go.RowKit
open Go.Joins (cell_of_block unfrozen_of_block)
set_option linter.unusedVariables false
set_option linter.unusedSimpArgs false
/-- what one unit of the layer ahead is blamed for, by so many units -/
def BL1 (par E : List Int) (f a i : Nat) : Nat → Int
 | 0 => 0
 | j + 1 => ADD (BL1 par E f a i j) (MUL (par.getD (f + j * (a + 1) + 1 + i) 0) (E.getD j 0))
theorem BL1_bd (par E : List Int) (f a i j : Nat) : 0 ≤ BL1 par E f a i j ∧ BL1 par E f a i j < 4294967296 := by
 induction j with
 | zero => exact ⟨by show (0 : Int) ≤ 0; omega, by show (0 : Int) < _; omega⟩
 | succ j ih => have := MUL_bd' (par.getD (f + j * (a + 1) + 1 + i) 0) (E.getD j 0); exact ADD_bd _ _ ih.1 ih.2 this.1 this.2
def BLM (par E : List Int) (f a ns : Nat) : List Int := (List.range a).map fun i => BL1 par E f a i ns
set_option maxHeartbeats 8000000 in
set_option maxRecDepth 100000 in
theorem blames_any (B o gp ge cp ce np ns f a : Nat) (par E : List Int) (w : World) (hBl : B < w.heap.size) (hpl : gp < w.heap.size) (hel : ge < w.heap.size)
 (c0 : w.cell? ⟨B, o, none⟩ = some (.int .i64 (a : Int))) (c2 : w.cell? ⟨B, o + 2, none⟩ = some (.int .i64 (f : Int)))
 (hp : ∀ i, i < np → w.cell? ⟨gp, i, none⟩ = some (.int .u32 (par.getD i 0))) (hE : ∀ i, i < ns → w.cell? ⟨ge, i, none⟩ = some (.int .u32 (E.getD i 0)))
 (pp : pats par) (pE : pats E) (a4 : a ≤ 4) (ns4 : ns ≤ 4) (f4 : f ≤ 100) (hnp : f + ns * (a + 1) ≤ np) (np4 : np ≤ 1000) :
 Calls Tryz.prog 90 #[.pointer (some ⟨B, o, none⟩), .slice (some ⟨gp, 0, none⟩) np cp, .slice (some ⟨ge, 0, none⟩) ns ce] w fun e w' => e = .returned (.slice (some ⟨w.heap.size, 0, none⟩) a a) ∧ w'.heap[w.heap.size]? = some (.cells (u32s (BLM par E f a ns)) 29 (0, 0)) ∧ Below w.heap.size w w' := by
 obtain ⟨j0, ji, jz0, jz1, jz2⟩ := info_three Tryz.infoU
 have WT : Hid (∀ V, Below w.heap.size w V → ∀ j i : Nat, j < ns → i < a → Calls Tryz.prog 116 #[.pointer (some ⟨B, o, none⟩), .int .i64 (j : Int), .int .i64 (i : Int)] V fun e w' => e = .returned (.int .i64 ((f + j * (a + 1) + 1 + i : Nat) : Int)) ∧ Below V.heap.size V w') := fun V h j i hj hi => by
  have := pweight_any B o (f : Int) (a : Int) (j : Int) (i : Int) V (by omega) (by omega) (by omega) (by omega) ((h.cell (p := ⟨B, o, none⟩) hBl).trans c0) ((h.cell (p := ⟨B, o + 2, none⟩) hBl).trans c2)
  rw [show (f : Int) + (j : Int) * (1 + (a : Int)) + 1 + (i : Int) = ((f + j * (a + 1) + 1 + i : Nat) : Int) by simp [Int.add_comm]] at this; exact this
 have PC : Hid (∀ {V}, Below w.heap.size w V → ∀ i, i < np → V.cell? ⟨gp, i, none⟩ = some (.int .u32 (par.getD i 0))) := fun {V} h i hi => (h.cell (p := ⟨gp, i, none⟩) hpl).trans (hp i hi)
 have EC : Hid (∀ {V}, Below w.heap.size w V → ∀ i, i < ns → V.cell? ⟨ge, i, none⟩ = some (.int .u32 (E.getD i 0))) := fun {V} h i hi => (h.cell (p := ⟨ge, i, none⟩) hel).trans (hE i hi)
 have HPP : Hid _ := pp
 have HPE : Hid _ := pE
 obtain ⟨G, hG⟩ : ∃ G, G = w.heap.size := ⟨_, rfl⟩
 rw [← hG] at WT PC EC ⊢
 have HG : Hid _ := hG
 clear hp hE pp pE c2 hG hBl hpl hel
 go_enter Tryz.func90, Tryz.ntmps90
 go_wp2_with (first
  | (at_make; refine wpList_make_full _ rfl _ _ 43 rfl w.heap.size 29 j0 _ 1 Tryz.under43 ji jz0 jz1 _ _ _ _ a rfl rfl rfl rfl (by rw [jz2]; omega) (by unfold maxLen; omega) (Nat.le_refl _) ?_
     intro w1 hown hgr
     rw [Nat.mul_one] at hown
     have BW1 : Hid (Below w.heap.size w w1) := (Below.refl _ _).grown hgr (Nat.le_refl _) (by simp)
     have H1 : Hid (w1.heap[w.heap.size]? = some (.cells (u32s (List.replicate a 0)) 29 (0, 0))) := made_u32 hown
     clear hown hgr))
 rw [← HG.out] at H1 BW1 ⊢
 clear c0 ji jz0 jz1 jz2 HG
 go_loopw [18] (fun iv wr => ∃ i : Nat, i ≤ a ∧ iv = .int .i64 i ∧ ∃ l : List Int, Hid (l.length = a) ∧ Hid (∀ k, k < i → l.getD k 0 = BL1 par E f a k ns) ∧ Hid (∀ k, i ≤ k → l.getD k 0 = 0) ∧ Hid (wr.heap[G]? = some (.cells (u32s l) 29 (0, 0))) ∧ Hid (Below G w wr)) (fun iv _ => a - (intOf iv).toNat)
 case atStart => exact ⟨0, by omega, rfl, List.replicate a 0, List.length_replicate, fun k hk => absurd hk (by omega), fun k _ => by rw [List.getD_eq_getElem?_getD, List.getElem?_replicate]; split <;> rfl, H1.out, BW1.out⟩
 case round =>
  clear H1 BW1
  obtain ⟨i, hi, rfl, l0, LL0, LI0, LJ0, HL0, BW0⟩ := hrel
  by_cases hlt : i < a
  · go_wp2
    go_loopw [23] (fun jv wz => ∃ j : Nat, j ≤ ns ∧ jv = .int .i64 j ∧ ∃ l : List Int, Hid (l.length = a) ∧ Hid (∀ k, k < i → l.getD k 0 = BL1 par E f a k ns) ∧ Hid (l.getD i 0 = BL1 par E f a i j) ∧ Hid (∀ k, i + 1 ≤ k → l.getD k 0 = 0) ∧ Hid (wz.heap[G]? = some (.cells (u32s l) 29 (0, 0))) ∧ Hid (Below G w wz)) (fun jv _ => ns - (intOf jv).toNat)
    case atStart => exact ⟨0, by omega, rfl, l0, LL0.out, LI0.out, LJ0.out i (Nat.le_refl _), fun k hk => LJ0.out k (by omega), HL0.out, BW0.out⟩
    case round =>
     clear LL0 LI0 LJ0 HL0 BW0
     obtain ⟨j, hj, rfl, l, LL, LI, LV, LJ, HL, BW⟩ := hrel
     by_cases hjl : j < ns
     · have hmul : (j + 1) * (a + 1) ≤ ns * (a + 1) := Nat.mul_le_mul_right _ hjl
       have ej : wr.cell? ⟨ge, j, none⟩ = some (.int .u32 (E.getD j 0)) := EC.out BW.out j hjl
       have BD : Hid (∀ n, Below G w (wr.drewN n)) := fun n => BW.out.trans (Go.Joins.below_draws _ _ _)
       have WI : Hid (∀ n, Calls Tryz.prog 116 #[.pointer (some ⟨B, o, none⟩), .int .i64 (j : Int), .int .i64 (i : Int)] (wr.drewN n) fun e w' => e = .returned (.int .i64 ((f + j * (a + 1) + 1 + i : Nat) : Int)) ∧ Below (wr.drewN n).heap.size (wr.drewN n) w') := fun n => WT.out _ (BD.out n) j i hjl hlt
       have SU : Hid (BL1 par E f a i (j + 1) = ADD (BL1 par E f a i j) (MUL (par.getD (f + j * (a + 1) + 1 + i) 0) (E.getD j 0))) := rfl
       have pin : f + j * (a + 1) + 1 + i < np := by rw [Nat.add_mul] at hmul; omega
       obtain ⟨p, hpd⟩ : ∃ p, p = f + j * (a + 1) + 1 + i := ⟨_, rfl⟩
       rw [← hpd] at WI SU pin
       have bv := BL1_bd par E f a i j
       have pv := pats_at HPP.out p
       have ev := pats_at HPE.out j
       have PV : Hid (∀ {V}, Below G w V → V.cell? ⟨gp, p, none⟩ = some (.int .u32 (par.getD p 0))) := fun {V} h => PC.out h p pin
       have ai : wr.cell? ⟨G, i, none⟩ = some (.int .u32 (BL1 par E f a i j)) := by rw [cell_of_block HL.out, u32s_at l i (by rw [LL.out]; exact hlt), LV.out]
       have fi : wr.frozen? ⟨G, i, none⟩ = false := unfrozen_of_block HL.out _
       obtain ⟨b, hb'⟩ : ∃ v, v = BL1 par E f a i j := ⟨_, rfl⟩
       obtain ⟨q, hq'⟩ : ∃ v, v = par.getD p 0 := ⟨_, rfl⟩
       obtain ⟨e0, he'⟩ : ∃ v, v = E.getD j 0 := ⟨_, rfl⟩
       rw [← hb'] at bv ai SU LV
       rw [← hq'] at pv PV SU
       rw [← he'] at ev ej SU
       have mb := MUL_bd' q e0
       have MU : Hid (∀ V, Calls Tryz.prog 61 #[.int .u32 q, .int .u32 e0] V fun e w' => e = .returned (.int .u32 (MUL q e0)) ∧ w' = V) := fun V => mul_any q e0 V pv.1 pv.2 ev.1 ev.2
       obtain ⟨m, hm'⟩ : ∃ v, v = MUL q e0 := ⟨_, rfl⟩
       rw [← hm'] at mb MU SU
       have AD : Hid (∀ V, Calls Tryz.prog 56 #[.int .u32 b, .int .u32 m] V fun e w' => e = .returned (.int .u32 (ADD b m)) ∧ w' = V) := fun V => add_any b m V bv.1 bv.2 mb.1 mb.2
       have jl : (j : Int) < (ns : Int) := by omega
       have jz : (0 : Int) ≤ (j : Int) := by omega
       have il : (i : Int) < (a : Int) := by omega
       have iz : (0 : Int) ≤ (i : Int) := by omega
       have pl : (p : Int) < (np : Int) := by omega
       have pz : (0 : Int) ≤ (p : Int) := by omega
       have LD : Hid (∀ n, (wr.drewN n).heap[G]? = some (.cells (u32s l) 29 (0, 0))) := fun n => HL.out
       clear hb' hq' he' hm' hpd hmul pin
       go_upto_region 8 with fail
       go_region_with (first
        | (go_at_call 116; refine (WI.out 1).mono ?_; rintro e w5 ⟨rfl, hb⟩
           have L5 : Hid (w5.heap[G]? = some (.cells (u32s l) 29 (0, 0))) := (hb.block _ (lt_of_heap (LD.out 1))).trans (LD.out 1)
           have B5 : Hid (Below G w w5) := (BD.out 1).trans (hb.mono (Nat.le_of_lt (lt_of_heap (LD.out 1))))
           have p5 : w5.cell? ⟨gp, p, none⟩ = some (.int .u32 q) := PV.out B5.out
           have a5 : w5.cell? ⟨G, i, none⟩ = some (.int .u32 b) := by rw [cell_of_block L5.out, u32s_at l i (by rw [LL.out]; exact hlt), LV.out]
           have f5 : w5.frozen? ⟨G, i, none⟩ = false := unfrozen_of_block L5.out _
           clear hb)
        | (go_at_call 61; refine (MU.out _).mono ?_; rintro e w6 ⟨rfl, hw'⟩; subst w6)
        | (go_at_call 56; refine (AD.out _).mono ?_; rintro e w7 ⟨rfl, hw'⟩; subst w7))
       all_goals
        go_wp2
        go_roundw
        case rel =>
         refine ⟨j + 1, by omega, by go_num, l.set i (ADD b m), ?_, fun k hk => ?_, ?_, fun k hk => ?_, ?_, B5.out.setCell (p := ⟨G, i, none⟩) (Nat.le_refl _) _⟩
         · show _ = _; rw [List.length_set]; exact LL.out
         · rw [getD_set, if_neg (fun h => by omega)]; exact LI.out k hk
         · show _ = _; rw [getD_set, if_pos ⟨rfl, by rw [LL.out]; exact hlt⟩]; exact SU.out.symm
         · rw [getD_set, if_neg (fun h => by omega)]; exact LJ.out k hk
         · show _ = _; rw [heap_set _ G i _ _ 29 _ L5.out, u32s_set]
        case measure => simp [intOf]; omega
     · have hje : ns = j := by omega
       have LV2 : Hid (l.getD i 0 = BL1 par E f a i ns) := by show _ = _; rw [LV.out, hje]
       clear hje
       go_wp2
       go_roundw
       case rel =>
        refine ⟨i + 1, by omega, by go_num, l, LL.out, fun k hk => ?_, LJ.out, HL.out, BW.out⟩
        by_cases e : k = i
        · rw [e]; exact LV2.out
        · exact LI.out k (by omega)
       case measure => simp [intOf]; omega
  · have hie : a = i := by omega
    have R : Hid (wr.heap[G]? = some (.cells (u32s (BLM par E f a ns)) 29 (0, 0))) := by
     show _ = _
     rw [HL0.out, list_of l0 a (fun i => BL1 par E f a i ns) LL0.out fun k hk => LI0.out k (by omega)]
     rfl
    clear hie
    go_wp2
    go_ret
    exact ⟨rfl, R.out, BW0.out⟩
end Go.Proofs.YtoihkljlekknkaaGreat
/-
  A net's sums, answers, errors and slopes as plain functions on rows of patterns. Conditions: the widths are 0 to 4.
-/
namespace Go.Proofs.YtoihkljlekknkaaGreat
open Go.RowKit
set_option linter.unusedVariables false
set_option linter.unusedSimpArgs false
def wn (c : Cf) (k : Nat) : Nat := (wd c k).toNat
/-- where the parameters of layer k (from 0 on) begin -/
def sn (c : Cf) (k : Nat) : Nat := (stN c (k + 1)).toNat
theorem wn_eq {c : Cf} (hw : WB c) (k : Nat) (hk : k < 4) : wd c k = (wn c k : Int) := by
 have := hw k hk; unfold wn; omega
theorem wn_le {c : Cf} (hw : WB c) (k : Nat) (hk : k < 4) : wn c k ≤ 4 := by
 have := hw k hk; unfold wn; omega
theorem sn_eq {c : Cf} (hw : WB c) (k : Nat) (hk : k < 4) : stN c (k + 1) = (sn c k : Int) := by
 have := stN_bd c hw (k + 1) (by omega); unfold sn; omega
theorem sn_le {c : Cf} (hw : WB c) (k : Nat) (hk : k < 4) : sn c k ≤ 60 := by
 have := stN_bd c hw (k + 1) (by omega); unfold sn; omega
theorem sn_succ {c : Cf} (hw : WB c) (k : Nat) (hk : k < 3) : sn c (k + 1) = sn c k + wn c (k + 1) * (wn c k + 1) := by
 have h := stN_succ c (k + 1) (by omega)
 rw [sn_eq hw (k + 1) (by omega), sn_eq hw k (by omega), wn_eq hw (k + 1) (by omega), show k + 1 - 1 = k by omega, wn_eq hw k (by omega)] at h
 exact_mod_cast h
theorem sn_mono {c : Cf} (hw : WB c) (k m : Nat) (hk : k ≤ m) (hm : m < 4) : sn c k ≤ sn c m := by
 induction m with
 | zero => have : k = 0 := by omega
           subst this; exact Nat.le_refl _
 | succ m ih =>
   by_cases e : k = m + 1
   · subst e; exact Nat.le_refl _
   · have := ih (by omega) (by omega); have := sn_succ hw m (by omega); omega
theorem sn_room {c : Cf} (hw : WB c) (k m : Nat) (hk : k ≤ m) (hm : m < 3) : sn c k + wn c (k + 1) * (wn c k + 1) ≤ sn c (m + 1) := by
 rw [← sn_succ hw k (by omega)]; exact sn_mono hw _ _ (by omega) (by omega)
/-- a layer's sums, out of the answers ahead of it -/
def SMf (c : Cf) (par A : List Int) (k : Nat) : List Int := SUMS par A (sn c k) (wn c k) (wn c (k + 1))
/-- the answers ahead of layer k -/
def AN (c : Cf) (par x : List Int) : Nat → List Int
 | 0 => x
 | k + 1 => ANS c.bend (SMf c par (AN c par x k) k) (wn c (k + 1))
/-- the sums of layer k -/
def SM (c : Cf) (par x : List Int) (k : Nat) : List Int := SMf c par (AN c par x k) k
theorem AN_succ (c : Cf) (par x : List Int) (k : Nat) : AN c par x (k + 1) = ANS c.bend (SM c par x k) (wn c (k + 1)) := rfl
/-- the errors of layer m - d -/
def ER (c : Cf) (par x y : List Int) (m : Nat) : Nat → List Int
 | 0 => WRONG c.loss (SM c par x m) y
 | d + 1 => ERS c.bend (BLM par (ER c par x y m d) (sn c (m - d)) (wn c (m - d)) (wn c (m - d + 1))) (SM c par x (m - d - 1)) (AN c par x (m - d)) (wn c (m - d))
/-- the slopes, where the layers down to m - d are done -/
def GR (c : Cf) (par x y : List Int) (m : Nat) : Nat → List Int
 | 0 => SLO (ER c par x y m 0) (AN c par x m) (sn c m) (wn c m) (List.replicate (sn c (m + 1)) 0) (wn c (m + 1))
 | d + 1 => SLO (ER c par x y m (d + 1)) (AN c par x (m - d - 1)) (sn c (m - d - 1)) (wn c (m - d - 1)) (GR c par x y m d) (wn c (m - d))
def SLOPES (c : Cf) (par x y : List Int) (m : Nat) : List Int := GR c par x y m m
theorem pats_rep (n : Nat) : pats (List.replicate n 0) := fun v hv => by
 rw [(List.mem_replicate.1 hv).2]; exact ⟨by omega, by omega⟩
theorem ANS_len (b : Int) (s : List Int) (n : Nat) : (ANS b s n).length = n := by simp [ANS]
theorem ANS_pats (b : Int) {s : List Int} (h : pats s) (n : Nat) : pats (ANS b s n) := fun v hv => by
 unfold ANS at hv
 obtain ⟨k, _, rfl⟩ := List.mem_map.1 hv
 exact BNT_bd b _ (pats_at h k)
theorem ERS_len (b : Int) (bl s a : List Int) (n : Nat) : (ERS b bl s a n).length = n := by simp [ERS]
theorem ERS_pats (b : Int) {bl : List Int} (h : pats bl) (s a : List Int) (n : Nat) : pats (ERS b bl s a n) := fun v hv => by
 unfold ERS at hv
 obtain ⟨k, _, rfl⟩ := List.mem_map.1 hv
 exact SLP_bd b _ _ _ (pats_at h k)
theorem BLM_len (par E : List Int) (f a n : Nat) : (BLM par E f a n).length = a := by simp [BLM]
theorem BLM_pats (par E : List Int) (f a n : Nat) : pats (BLM par E f a n) := fun v hv => by
 unfold BLM at hv
 obtain ⟨k, _, rfl⟩ := List.mem_map.1 hv
 exact BL1_bd par E f a k n
theorem SM_len (c : Cf) (par x : List Int) (k : Nat) : (SM c par x k).length = wn c (k + 1) := SUMS_len _ _ _ _ _
theorem SM_pats (c : Cf) {par : List Int} (h : pats par) (x : List Int) (k : Nat) : pats (SM c par x k) := SUMS_pats h _ _ _ _
theorem AN_len (c : Cf) (par x : List Int) (k : Nat) (hx : wn c 0 ≤ x.length) : wn c k ≤ (AN c par x k).length := by
 cases k with
 | zero => exact hx
 | succ k => rw [AN_succ, ANS_len]; exact Nat.le_refl _
theorem AN_pats (c : Cf) {par x : List Int} (h : pats par) (hx : pats x) (k : Nat) : pats (AN c par x k) := by
 cases k with
 | zero => exact hx
 | succ k => exact ANS_pats _ (SM_pats c h x k) _
theorem WRONG_len (loss : Int) (s y : List Int) : (WRONG loss s y).length = s.length := WRG_len _ _ _
theorem WRONG_pats (loss : Int) {s : List Int} (h : pats s) (y : List Int) : pats (WRONG loss s y) := WRG_pats (HLD_pats h loss) y _
theorem ER_len (c : Cf) (par x y : List Int) (m d : Nat) (h : d ≤ m) : (ER c par x y m d).length = wn c (m - d + 1) := by
 cases d with
 | zero => exact (WRONG_len _ _ _).trans (SM_len _ _ _ _)
 | succ d => show (ERS _ _ _ _ _).length = _; rw [ERS_len, show m - (d + 1) + 1 = m - d by omega]
theorem ER_pats (c : Cf) {par : List Int} (h : pats par) (x y : List Int) (m d : Nat) : pats (ER c par x y m d) := by
 cases d with
 | zero => exact WRONG_pats _ (SM_pats c h x m) y
 | succ d => exact ERS_pats _ (BLM_pats _ _ _ _ _) _ _ _
theorem GR_len (c : Cf) (par x y : List Int) (m d : Nat) : (GR c par x y m d).length = sn c (m + 1) := by
 induction d with
 | zero => exact (SLO_len _ _ _ _ _ _).trans List.length_replicate
 | succ d ih => exact (SLO_len _ _ _ _ _ _).trans ih
theorem GR_pats (c : Cf) {par : List Int} (h : pats par) (x y : List Int) (m d : Nat) : pats (GR c par x y m d) := by
 induction d with
 | zero => exact SLO_pats (ER_pats c h x y m 0) _ _ _ (pats_rep _) _
 | succ d ih => exact SLO_pats (ER_pats c h x y m (d + 1)) _ _ _ ih _
theorem SLOPES_len (c : Cf) (par x y : List Int) (m : Nat) : (SLOPES c par x y m).length = sn c (m + 1) := GR_len _ _ _ _ _ _
theorem SLOPES_pats (c : Cf) {par : List Int} (h : pats par) (x y : List Int) (m : Nat) : pats (SLOPES c par x y m) := GR_pats c h x y m m
end Go.Proofs.YtoihkljlekknkaaGreat
