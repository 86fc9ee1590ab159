/-
  A state as a text, by the document. Conditions: its numbers are patterns; there are as many moments as parameters, fewer than 2^20.
-/
import Derived.Test.YtoihkljlekknkaaGreatAr5
namespace Go.Proofs.YtoihkljlekknkaaGreat
open Go.RowKit
open Go.Joins (block_setCell cell_of_block unfrozen_of_block)
set_option linter.unusedVariables false
set_option linter.unusedSimpArgs false
/-- a text, and the first i numbers behind it -/
def TX (t : ByteArray) (l : List Int) : Nat → ByteArray
 | 0 => t
 | i + 1 => TX t l i ++ fourB (l.getD i 0)
/-- a state's text -/
def TEXT (st : Int) (P V M : List Int) : ByteArray := TX (TX (TX (fourB st) P P.length) V P.length) M P.length
def BX3 (g : Nat) (v1 v2 v3 : Value) (V : World) : Prop := V.cell? ⟨g, 1, none⟩ = some v1 ∧ V.cell? ⟨g, 2, none⟩ = some v2 ∧ V.cell? ⟨g, 3, none⟩ = some v3 ∧ g < V.heap.size
theorem bx_below {g : Nat} {v1 v2 v3 : Value} {V U : World} (h : BX3 g v1 v2 v3 V) (b : Below V.heap.size V U) : BX3 g v1 v2 v3 U :=
 ⟨(b.cell (p := ⟨g, 1, none⟩) h.2.2.2).trans h.1, (b.cell (p := ⟨g, 2, none⟩) h.2.2.2).trans h.2.1, (b.cell (p := ⟨g, 3, none⟩) h.2.2.2).trans h.2.2.1, Nat.lt_of_lt_of_le h.2.2.2 b.size⟩
set_option maxHeartbeats 8000000 in
set_option maxRecDepth 100000 in
theorem rtext_any (st : Int) (lp lv lm : List Int) (vP vV vM : Value) (b1 b2 b3 : Nat) (w : World) (hst : 0 ≤ st ∧ st < 4294967296) (h1 : OutI w b1 vP lp) (h2 : OutI w b2 vV lv) (h3 : OutI w b3 vM lm) (p1 : pats lp) (p2 : pats lv) (p3 : pats lm) (l2 : lv.length = lp.length) (l3 : lm.length = lp.length) (hn : lp.length < 1048576) :
 Calls Tryz.prog 19 #[.agg #[.int .i64 st, vP, vV, vM]] w fun e w' => e = .returned (.string (TEXT st lp lv lm)) ∧ Below w.heap.size w w' := by
 obtain ⟨ap, cp, rfl, hp⟩ := row_at h1
 obtain ⟨av, cv, rfl, hv⟩ := row_at h2
 obtain ⟨am, cm, rfl, hm⟩ := row_at h3
 rw [l2] at hv ⊢
 rw [l3] at hm ⊢
 have FIN : Hid (TEXT st lp lv lm = TX (TX (TX (fourB st) lp lp.length) lv lp.length) lm lp.length) := rfl
 obtain ⟨n, hnn⟩ : ∃ n, n = lp.length := ⟨_, rfl⟩
 rw [← hnn] at hn hp hv hm FIN ⊢
 have Hlp : Hid _ := hp
 have Hlv : Hid _ := hv
 have Hlm : Hid _ := hm
 have Plp : Hid (pats lp) := p1
 have Plv : Hid (pats lv) := p2
 have Plm : Hid (pats lm) := p3
 obtain ⟨W, hW, b0, bel, hws⟩ := one_block w #[.int .i64 st, .slice ap n cp, .slice av n cv, .slice am n cm] 52
 have c0 : W.cell? ⟨w.heap.size, 0, none⟩ = some (.int .i64 st) := cell_of_block b0 0
 have X0 : Hid (BX3 w.heap.size (.slice ap n cp) (.slice av n cv) (.slice am n cm) W) := ⟨cell_of_block b0 1, cell_of_block b0 2, cell_of_block b0 3, by omega⟩
 have BE : Hid (Below w.heap.size w W) := bel
 have HW : Hid _ := hW
 have BY0 : Hid (∀ V, Calls Tryz.prog 48 #[.int .i64 st] V fun e w' => e = .returned (.string (fourB st)) ∧ Below V.heap.size V w') := fun V => bytes_any st V hst.1 hst.2
 have f0 : (fourB st).size = 4 := rfl
 obtain ⟨t0, ht0⟩ : ∃ t, t = fourB st := ⟨_, rfl⟩
 rw [← ht0] at BY0 f0 FIN
 clear h1 h2 h3 hp hv hm p1 p2 p3 l2 l3 hnn b0 bel hW hws ht0 hst
 go_enter Tryz.func19, Tryz.ntmps19
 go_upto_region 1 with fail
 rw [HW.out]
 go_wp2_with (first
  | (go_at_call 48; refine (BY0.out _).mono ?_; rintro e w1 ⟨rfl, hb⟩
     have HB0 : Hid (Below w.heap.size w w1) := BE.out.trans (hb.mono BE.out.size)
     have XB0 : Hid (BX3 w.heap.size (.slice ap n cp) (.slice av n cv) (.slice am n cm) w1) := bx_below X0.out hb
     clear hb))
 clear c0
 go_loopw [3, 4] (fun tv iv wr => ∃ (i : Nat) (p : ByteArray), i ≤ n ∧ iv = .int .i64 i ∧ tv = .string p ∧ p.size = 4 + 4 * 0 + 4 * i ∧ Hid (p = TX t0 lp i) ∧ Hid (Below w.heap.size w wr) ∧ Hid (BX3 w.heap.size (.slice ap n cp) (.slice av n cv) (.slice am n cm) wr)) (fun _ iv _ => n - (intOf iv).toNat)
 case atStart => exact ⟨0, t0, by omega, rfl, rfl, by omega, rfl, HB0.out, XB0.out⟩
 case round =>
  obtain ⟨i, p, hi, rfl, rfl, hps, HP, BW, XB⟩ := hrel
  have cf : wr.cell? ⟨w.heap.size, 1, none⟩ = some (.slice ap n cp) := XB.out.1
  by_cases hlt : i < n
  · obtain ⟨gg, rfl, gl, gc⟩ := Hlp.out (by omega)
    have xi : wr.cell? ⟨gg, i, none⟩ = some (.int .i64 (lp.getD i 0)) := (BW.out.cell (p := ⟨gg, i, none⟩) gl).trans (gc i hlt)
    have bX := pats_at Plp.out i
    have SU : Hid (TX t0 lp (i + 1) = p ++ fourB (lp.getD i 0)) := by show _ = _; rw [HP.out]; rfl
    obtain ⟨x, hx⟩ : ∃ a, a = lp.getD i 0 := ⟨_, rfl⟩
    rw [← hx] at xi bX SU
    have BY : Hid (∀ V, Calls Tryz.prog 48 #[.int .i64 x] V fun e w' => e = .returned (.string (fourB x)) ∧ Below V.heap.size V w') := fun V => bytes_any x V bX.1 bX.2
    have f4 : (fourB x).size = 4 := rfl
    obtain ⟨q, hq⟩ : ∃ q, q = fourB x := ⟨_, rfl⟩
    rw [← hq] at SU BY f4
    have SZ : Hid ((p ++ q).size = 4 + 4 * 0 + 4 * (i + 1)) := by show _ = _; rw [ByteArray.size_append, hps, f4]; omega
    have il : (i : Int) < (n : Int) := by omega
    have i0 : (0 : Int) ≤ (i : Int) := by omega
    clear hx hq gl gc
    go_wp2_with (first
     | (go_at_call 48; refine (BY.out _).mono ?_; rintro e w1 ⟨rfl, hb⟩
        have HB : Hid (Below w.heap.size w w1) := BW.out.trans (hb.mono BW.out.size)
        have XB1 : Hid (BX3 w.heap.size _ _ _ w1) := bx_below XB.out hb
        clear hb))
    go_roundw
    case rel => exact ⟨i + 1, _, by omega, by go_num, rfl, SZ.out, SU.out.symm, HB.out, XB1.out⟩
    case measure => simp [intOf]; omega
  · have hie : n = i := by omega
    subst hie
    have hp1 := HP.out
    rw [← hp1] at FIN
    obtain ⟨t1, htn⟩ : ∃ t, t = p := ⟨_, rfl⟩
    subst htn
    have Bt1 : Hid (Below w.heap.size w wr ∧ BX3 w.heap.size (.slice ap n cp) (.slice av n cv) (.slice am n cm) wr) := ⟨BW.out, XB.out⟩
    clear hi hp1 HP
    go_wp2
    clear BW XB cf hlt
    go_loopw [3, 5] (fun tv iv wr => ∃ (i : Nat) (p : ByteArray), i ≤ n ∧ iv = .int .i64 i ∧ tv = .string p ∧ p.size = 4 + 4 * n + 4 * i ∧ Hid (p = TX t1 lv i) ∧ Hid (Below w.heap.size w wr) ∧ Hid (BX3 w.heap.size (.slice ap n cp) (.slice av n cv) (.slice am n cm) wr)) (fun _ iv _ => n - (intOf iv).toNat)
    case atStart => exact ⟨0, t1, by omega, rfl, rfl, by omega, rfl, Bt1.out.1, Bt1.out.2⟩
    case round =>
     obtain ⟨i, p, hi, rfl, rfl, hps, HP, BW, XB⟩ := hrel
     have cf : wr.cell? ⟨w.heap.size, 2, none⟩ = some (.slice av n cv) := XB.out.2.1
     by_cases hlt : i < n
     · obtain ⟨gg, rfl, gl, gc⟩ := Hlv.out (by omega)
       have xi : wr.cell? ⟨gg, i, none⟩ = some (.int .i64 (lv.getD i 0)) := (BW.out.cell (p := ⟨gg, i, none⟩) gl).trans (gc i hlt)
       have bX := pats_at Plv.out i
       have SU : Hid (TX t1 lv (i + 1) = p ++ fourB (lv.getD i 0)) := by show _ = _; rw [HP.out]; rfl
       obtain ⟨x, hx⟩ : ∃ a, a = lv.getD i 0 := ⟨_, rfl⟩
       rw [← hx] at xi bX SU
       have BY : Hid (∀ V, Calls Tryz.prog 48 #[.int .i64 x] V fun e w' => e = .returned (.string (fourB x)) ∧ Below V.heap.size V w') := fun V => bytes_any x V bX.1 bX.2
       have f4 : (fourB x).size = 4 := rfl
       obtain ⟨q, hq⟩ : ∃ q, q = fourB x := ⟨_, rfl⟩
       rw [← hq] at SU BY f4
       have SZ : Hid ((p ++ q).size = 4 + 4 * n + 4 * (i + 1)) := by show _ = _; rw [ByteArray.size_append, hps, f4]; omega
       have il : (i : Int) < (n : Int) := by omega
       have i0 : (0 : Int) ≤ (i : Int) := by omega
       clear hx hq gl gc
       go_wp2_with (first
        | (go_at_call 48; refine (BY.out _).mono ?_; rintro e w1 ⟨rfl, hb⟩
           have HB : Hid (Below w.heap.size w w1) := BW.out.trans (hb.mono BW.out.size)
           have XB1 : Hid (BX3 w.heap.size _ _ _ w1) := bx_below XB.out hb
           clear hb))
       go_roundw
       case rel => exact ⟨i + 1, _, by omega, by go_num, rfl, SZ.out, SU.out.symm, HB.out, XB1.out⟩
       case measure => simp [intOf]; omega
     · have hie : n = i := by omega
       subst hie
       have hp1 := HP.out
       rw [← hp1] at FIN
       obtain ⟨t2, htn⟩ : ∃ t, t = p := ⟨_, rfl⟩
       subst htn
       have Bt2 : Hid (Below w.heap.size w wr ∧ BX3 w.heap.size (.slice ap n cp) (.slice av n cv) (.slice am n cm) wr) := ⟨BW.out, XB.out⟩
       clear hi hp1 HP
       go_wp2
       clear BW XB cf hlt
       go_loopw [3, 6] (fun tv iv wr => ∃ (i : Nat) (p : ByteArray), i ≤ n ∧ iv = .int .i64 i ∧ tv = .string p ∧ p.size = 4 + 4 * (n + n) + 4 * i ∧ Hid (p = TX t2 lm i) ∧ Hid (Below w.heap.size w wr) ∧ Hid (BX3 w.heap.size (.slice ap n cp) (.slice av n cv) (.slice am n cm) wr)) (fun _ iv _ => n - (intOf iv).toNat)
       case atStart => exact ⟨0, t2, by omega, rfl, rfl, by omega, rfl, Bt2.out.1, Bt2.out.2⟩
       case round =>
        obtain ⟨i, p, hi, rfl, rfl, hps, HP, BW, XB⟩ := hrel
        have cf : wr.cell? ⟨w.heap.size, 3, none⟩ = some (.slice am n cm) := XB.out.2.2.1
        by_cases hlt : i < n
        · obtain ⟨gg, rfl, gl, gc⟩ := Hlm.out (by omega)
          have xi : wr.cell? ⟨gg, i, none⟩ = some (.int .i64 (lm.getD i 0)) := (BW.out.cell (p := ⟨gg, i, none⟩) gl).trans (gc i hlt)
          have bX := pats_at Plm.out i
          have SU : Hid (TX t2 lm (i + 1) = p ++ fourB (lm.getD i 0)) := by show _ = _; rw [HP.out]; rfl
          obtain ⟨x, hx⟩ : ∃ a, a = lm.getD i 0 := ⟨_, rfl⟩
          rw [← hx] at xi bX SU
          have BY : Hid (∀ V, Calls Tryz.prog 48 #[.int .i64 x] V fun e w' => e = .returned (.string (fourB x)) ∧ Below V.heap.size V w') := fun V => bytes_any x V bX.1 bX.2
          have f4 : (fourB x).size = 4 := rfl
          obtain ⟨q, hq⟩ : ∃ q, q = fourB x := ⟨_, rfl⟩
          rw [← hq] at SU BY f4
          have SZ : Hid ((p ++ q).size = 4 + 4 * (n + n) + 4 * (i + 1)) := by show _ = _; rw [ByteArray.size_append, hps, f4]; omega
          have il : (i : Int) < (n : Int) := by omega
          have i0 : (0 : Int) ≤ (i : Int) := by omega
          clear hx hq gl gc
          go_wp2_with (first
           | (go_at_call 48; refine (BY.out _).mono ?_; rintro e w1 ⟨rfl, hb⟩
              have HB : Hid (Below w.heap.size w w1) := BW.out.trans (hb.mono BW.out.size)
              have XB1 : Hid (BX3 w.heap.size _ _ _ w1) := bx_below XB.out hb
              clear hb))
          go_roundw
          case rel => exact ⟨i + 1, _, by omega, by go_num, rfl, SZ.out, SU.out.symm, HB.out, XB1.out⟩
          case measure => simp [intOf]; omega
        · have hie : n = i := by omega
          subst hie
          have hp1 := HP.out
          go_wp2
          go_ret
          exact ⟨ret_str (by rw [FIN.out, hp1]), BW.out⟩
end Go.Proofs.YtoihkljlekknkaaGreat
