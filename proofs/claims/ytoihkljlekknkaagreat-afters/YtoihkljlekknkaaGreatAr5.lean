/-
  A sample's numbers, by the document. Conditions: the data are long enough; the widths are 0 to 4; the numbers asked for are small.
-/
import Derived.Test.YtoihkljlekknkaaGreatAr4
import Derived.Test.YtoihkljlekknkaaGreatWd
import Derived.Test.YtoihkljlekknkaaGreatRefPoly
import Derived.Test.YtoihkljlekknkaaGreatInts
namespace Go.Proofs.YtoihkljlekknkaaGreat
open Go.RowKit
open Go.Joins (block_setCell cell_of_block unfrozen_of_block)
set_option linter.unusedVariables false
set_option linter.unusedSimpArgs false
/-- m numbers of a text, from number p on -/
def WDS (s : ByteArray) (p m : Nat) : List Int := (List.range m).map fun i => wordN s (4 * (p + i))
theorem WDS_succ (s : ByteArray) (p m : Nat) : WDS s p (m + 1) = WDS s p m ++ [wordN s (4 * (p + m))] := by unfold WDS; rw [List.range_succ, List.map_append]; rfl
theorem WDS_len (s : ByteArray) (p m : Nat) : (WDS s p m).length = m := by simp [WDS]
theorem WDS_pats (s : ByteArray) (p m : Nat) : pats (WDS s p m) := fun v hv => by
 obtain ⟨j, _, rfl⟩ := List.mem_map.1 hv
 exact wordN_lt s _
theorem below_drewN {B : Nat} {a w : World} (h : Below B a w) (n : Nat) : Below B a (w.drewN n) := ⟨h.os, h.tape, h.output, h.size, h.block⟩
theorem mulc (n m : Nat) (hn : n ≤ 16) (hm : m ≤ 8) : n * m ≤ 128 := by
 have := Nat.mul_le_mul hn hm
 omega
set_option maxHeartbeats 4000000 in
set_option maxRecDepth 100000 in
theorem sample_any (c : Cf) (l n0 nl n from_ many : Nat) (hl : c.L = (l : Int)) (hl3 : l ≤ 3) (e0 : wd c 0 = (n0 : Int)) (e1 : wd c l = (nl : Int)) (h0 : n0 ≤ 4) (h1 : nl ≤ 4) (hn : n ≤ 16) (hf : from_ ≤ 4) (hm : many ≤ 4) (s : ByteArray) (hs : s.size ≤ maxLen) (hlen : 4 * (n * (n0 + nl) + from_ + many) ≤ s.size) (w : World) :
 Calls Tryz.prog 75 #[.agg (rcs c), .string s, .int .i64 (n : Int), .int .i64 (from_ : Int), .int .i64 (many : Int)] w fun e w' => ∃ v, e = .returned v ∧ OutI w' w.heap.size v (WDS s (n * (n0 + nl) + from_) many) ∧ Below w.heap.size w w' := by
 have kL : (rcs c)[0]? = some (.int .i64 (l : Int)) := by rw [← hl]; rfl
 have k0 : (rcs c)[1]? = some (.int .i64 (n0 : Int)) := by rw [← e0]; rfl
 have k1 : (rcs c)[1 + l]? = some (.int .i64 (nl : Int)) := by rw [← e1]; exact rcs_wide c l (by omega)
 have mb := mulc n (n0 + nl) hn (by omega)
 obtain ⟨u, hu⟩ : ∃ u, n * (n0 + nl) = u := ⟨_, rfl⟩
 have hui : (n : Int) * ((n0 : Int) + (nl : Int)) = (u : Int) := by rw [← hu]; simp
 rw [hu] at mb hlen ⊢
 obtain ⟨X, hX⟩ : ∃ X, X = rcs c := ⟨_, rfl⟩
 rw [← hX] at kL k0 k1 ⊢
 obtain ⟨W, hW, b0, bel, hws⟩ := one_block w X 24
 have cL : W.cell? ⟨w.heap.size, 0, none⟩ = some (.int .i64 (l : Int)) := (cell_of_block b0 0).trans kL
 have c0 : W.cell? ⟨w.heap.size, 1, none⟩ = some (.int .i64 (n0 : Int)) := (cell_of_block b0 1).trans k0
 have c1 : W.cell? ⟨w.heap.size, 1 + l, none⟩ = some (.int .i64 (nl : Int)) := (cell_of_block b0 (1 + l)).trans k1
 have f1 : IntKind.i64.wrap ((n0 : Int) + (nl : Int)) = (n0 : Int) + (nl : Int) := wrap_id _ (by omega) (by omega)
 have f2 : IntKind.i64.wrap ((n : Int) * ((n0 : Int) + (nl : Int))) = (u : Int) := by rw [hui]; exact wrap_id _ (by omega) (by omega)
 have f3 : IntKind.i64.wrap ((u : Int) + (from_ : Int)) = (u : Int) + (from_ : Int) := wrap_id _ (by omega) (by omega)
 have f4 : IntKind.i64.wrap (4 * ((u : Int) + (from_ : Int))) = 4 * ((u : Int) + (from_ : Int)) := wrap_id _ (by omega) (by omega)
 have l0 : (0 : Int) ≤ (l : Int) := by omega
 have l4 : (l : Int) < 4 := by omega
 obtain ⟨j0, ji, jz0, jz1, jz2⟩ := info_three Tryz.infoI
 have INF : Hid _ := And.intro ji (And.intro jz0 (And.intro jz1 jz2))
 have BE : Hid (Below w.heap.size w W) := bel
 have HW : Hid _ := hW
 have WD : Hid (∀ (i : Nat) (V : World), i < many → Calls Tryz.prog 105 #[.string s, .int .i64 (4 * ((u : Int) + (from_ : Int)) + 4 * (i : Int))] V fun e w' => e = .returned (.int .i64 (wordN s (4 * (u + from_ + i)))) ∧ ∃ n, w' = V.drewN n) := fun i V hi => by
  have := word_any s (4 * ((u : Int) + (from_ : Int)) + 4 * (i : Int)) V hs (by omega) (by omega)
  rw [show (4 * ((u : Int) + (from_ : Int)) + 4 * (i : Int)).toNat = 4 * (u + from_ + i) by omega] at this
  exact this
 clear b0 bel hW hws hX kL k0 k1 ji jz0 jz1 jz2 hu hui hl e0 e1 hs hlen
 go_enter Tryz.func75, Tryz.ntmps75
 go_upto_region 1 with fail
 rw [HW.out]
 go_quiet (fail)
 clear cL c0 c1
 go_wp2
 go_loopw [12, 13] (fun lv iv wr => ∃ i : Nat, i ≤ many ∧ iv = .int .i64 i ∧ Hid (OutI wr w.heap.size lv (WDS s (u + from_) i)) ∧ Hid (Below w.heap.size w wr)) (fun _ iv _ => many - (intOf iv).toNat)
 case atStart => exact ⟨0, by omega, rfl, World.ownsRow_nil _ _ _ _, below_drewN BE.out _⟩
 case round =>
  obtain ⟨i, hi, rfl, OW, BW⟩ := hrel
  by_cases hlt : i < many
  · obtain ⟨y, hy⟩ : ∃ y, y = wordN s (4 * (u + from_ + i)) := ⟨_, rfl⟩
    have WC : Hid (∀ V, Calls Tryz.prog 105 #[.string s, .int .i64 (4 * ((u : Int) + (from_ : Int)) + 4 * (i : Int))] V fun e w' => e = .returned (.int .i64 y) ∧ ∃ n, w' = V.drewN n) := fun V => by rw [hy]; exact WD.out i V hlt
    have SUC : Hid (WDS s (u + from_) (i + 1) = WDS s (u + from_) i ++ [y]) := by show _ = _; rw [WDS_succ, hy]
    obtain ⟨LS, hLS⟩ : ∃ l, l = WDS s (u + from_) i := ⟨_, rfl⟩
    have LL : Hid (LS.length = i) := by show _ = _; rw [hLS, WDS_len]
    rw [← hLS] at OW SUC
    have c3 : Hid (LS.length + 1 ≤ maxLen) := by show _ ≤ _; rw [LL.out]; unfold maxLen; omega
    have c4 : Hid ((LS.length + 1) * 8 ≤ 140737488355328) := by show _ ≤ _; rw [LL.out]; omega
    obtain ⟨ua, uc, hu9, -⟩ := row_at OW.out
    clear hy hLS
    subst hu9
    go_wp2_with (first
     | (go_at_call 105; refine (WC.out _).mono ?_; rintro e w1 ⟨rfl, nd, hw1⟩
        have BD : Hid (Below wr.heap.size wr w1) := by rw [hw1]; exact below_drewN (Below.refl _ _) nd
        have OA : Hid ((w1.alloc (.cells #[.int .i64 y] 3)).ownsRow w.heap.size 3 1 (.slice ua LS.length uc) LS.length (ints LS)) := World.ownsRow.alloc (owns_below OW.out BD.out) _
        have BA : Hid (Below w.heap.size w (w1.alloc (.cells #[.int .i64 y] 3))) := (BW.out.trans (BD.out.mono BW.out.size)).alloc (Nat.le_trans BW.out.size BD.out.size) _
        have c6 : Hid (w.heap.size ≤ (w1.alloc (.cells #[.int .i64 y] 3)).heap.size) := BA.out.size
        clear hw1)
     | (at_builtin; refine wpList_append_lies _ rfl _ _ 47 rfl w.heap.size 3 j0 _ 1 8 Tryz.underlying47 INF.out.1 INF.out.2.1 INF.out.2.2.1 INF.out.2.2.2 rfl (by decide) _ _ _ rfl OA.out ⟨w1.heap.size, 0, none⟩ 1 1 [.int .i64 y] rfl rfl (one_cell3 _ _ rfl _) (one_c _ rfl) (by decide) c3.out c4.out c6.out _ rfl ?_
        intro g2 cap2 w5 hown hgrow hat hlt2
        have O5 : Hid (OutI w5 w.heap.size (.slice (some ⟨g2, 0, none⟩) (LS.length + 1) cap2) (LS ++ [y])) := by
         show World.ownsRow _ _ _ _ _ _ _
         rw [← ints_app, List.length_append]; exact hown
        have E5 : Hid (Below w.heap.size w w5) := BA.out.grown hgrow BA.out.size fun b hb => (World.ownsRow.lt OA.out b hb).1
        clear hown hgrow hat hlt2))
    go_roundw
    case rel => exact ⟨i + 1, by omega, by go_num, by rw [SUC.out]; exact O5.out, E5.out⟩
    case measure => simp [intOf]; omega
  · have hie : i = many := by omega
    subst hie
    obtain ⟨ua, uc, hu9, -⟩ := row_at OW.out
    subst hu9
    go_wp2
    go_ret
    exact ⟨_, rfl, OW.out, BW.out⟩
end Go.Proofs.YtoihkljlekknkaaGreat
/-
  The errors of the last layer, by the document. Conditions: there are 1 to 4 sums, and as many numbers wanted; all are patterns.
-/
namespace Go.Proofs.YtoihkljlekknkaaGreat
open Go.RowKit
open Go.Joins (block_setCell cell_of_block unfrozen_of_block)
set_option linter.unusedVariables false
set_option linter.unusedSimpArgs false
/-- the greatest of the first i + 1 -/
def MST (s : List Int) : Nat → Int
 | 0 => s.getD 0 0
 | i + 1 => if LESS (MST s i) (s.getD (i + 1) 0) = true then s.getD (i + 1) 0 else MST s i
theorem MST_bd {s : List Int} (h : pats s) (i : Nat) : 0 ≤ MST s i ∧ MST s i < 4294967296 := by
 induction i with
 | zero => exact pats_at h 0
 | succ i ih => unfold MST; split; exact pats_at h _; exact ih
def EX1 (s : List Int) (m : Int) (i : Nat) : Int := EXP (SUB (s.getD i 0) m)
def EXS (s : List Int) (m : Int) (k : Nat) : List Int := (List.range k).map (EX1 s m)
def ZED (s : List Int) (m : Int) : Nat → Int
 | 0 => 0
 | i + 1 => ADD (ZED s m i) (EX1 s m i)
theorem ZED_bd (s : List Int) (m : Int) (i : Nat) : 0 ≤ ZED s m i ∧ ZED s m i < 4294967296 := by
 induction i with
 | zero => exact ⟨by show (0 : Int) ≤ 0; omega, by show (0 : Int) < _; omega⟩
 | succ i ih => have := EXP_bd (SUB (s.getD i 0) m); exact ADD_bd _ _ ih.1 ih.2 this.1 this.2
def SHR (s : List Int) (m z : Int) (k : Nat) : List Int := (List.range k).map fun i => DIV (EX1 s m i) z
def HLD (loss : Int) (s : List Int) : List Int := if loss = 1 then SHR s (MST s (s.length - 1)) (ZED s (MST s (s.length - 1)) s.length) s.length else s
def WRG (p y : List Int) (k : Nat) : List Int := (List.range k).map fun i => SUB (p.getD i 0) (y.getD i 0)
def WRONG (loss : Int) (s y : List Int) : List Int := WRG (HLD loss s) y s.length
theorem WRG_succ (p y : List Int) (i : Nat) : WRG p y (i + 1) = WRG p y i ++ [SUB (p.getD i 0) (y.getD i 0)] := by unfold WRG; rw [List.range_succ, List.map_append]; rfl
theorem EXS_succ (s : List Int) (m : Int) (i : Nat) : EXS s m (i + 1) = EXS s m i ++ [EX1 s m i] := by unfold EXS; rw [List.range_succ, List.map_append]; rfl
theorem SHR_succ (s : List Int) (m z : Int) (i : Nat) : SHR s m z (i + 1) = SHR s m z i ++ [DIV (EX1 s m i) z] := by unfold SHR; rw [List.range_succ, List.map_append]; rfl
theorem EXS_at (s : List Int) (m : Int) (k i : Nat) (h : i < k) : (EXS s m k).getD i 0 = EX1 s m i := by
 unfold EXS; rw [List.getD_eq_getElem?_getD, List.getElem?_map, List.getElem?_range h]; rfl
theorem SHR_pats (s : List Int) (m z : Int) (k : Nat) : pats (SHR s m z k) := fun v hv => by
 obtain ⟨j, _, rfl⟩ := List.mem_map.1 hv
 exact DIV_bd _ _
theorem WRG_pats {p : List Int} (h : pats p) (y : List Int) (k : Nat) : pats (WRG p y k) := fun v hv => by
 obtain ⟨j, _, rfl⟩ := List.mem_map.1 hv
 exact SUB_bd _ _ (pats_at h j).1 (pats_at h j).2
theorem WRG_len (p y : List Int) (k : Nat) : (WRG p y k).length = k := by simp [WRG]
set_option maxHeartbeats 8000000 in
set_option maxRecDepth 100000 in
theorem wrong_plain (c : Cf) (hl : ¬ c.loss = 1) (s y : List Int) (vs vy : Value) (bs by_ : Nat) (w : World) (hs : OutI w bs vs s) (hy : OutI w by_ vy y) (ps : pats s) (py : pats y) (h1 : 1 ≤ s.length) (h4 : s.length ≤ 4) (hl2 : s.length ≤ y.length) (hyb : y.length < 4611686018427387904) :
 Calls Tryz.prog 108 #[.agg (rcs c), vs, vy] w fun e w' => ∃ v, e = .returned v ∧ OutI w' w.heap.size v (WRONG c.loss s y) ∧ Below w.heap.size w w' := by
 have FIN : Hid (WRONG c.loss s y = WRG s y s.length) := by show _ = _; unfold WRONG HLD; rw [if_neg hl]
 have k6 : (rcs c)[6]? = some (.int .i64 c.loss) := rfl
 obtain ⟨X, hX⟩ : ∃ X, X = rcs c := ⟨_, rfl⟩
 rw [← hX] at k6 ⊢
 obtain ⟨W, hW, b0, bel, hws⟩ := one_block w X 24
 have c6 : W.cell? ⟨w.heap.size, 6, none⟩ = some (.int .i64 c.loss) := (cell_of_block b0 6).trans k6
 have BE : Hid (Below w.heap.size w W) := bel
 have HW : Hid _ := hW
 obtain ⟨sa, sc, rfl, hsa⟩ := row_at hs
 obtain ⟨ya, yc, rfl, hya⟩ := row_at hy
 obtain ⟨n, hn⟩ : ∃ l, l = s.length := ⟨_, rfl⟩
 obtain ⟨ny, hny⟩ : ∃ l, l = y.length := ⟨_, rfl⟩
 rw [← hn] at h1 h4 hl2 hsa FIN ⊢
 rw [← hny] at hl2 hya hyb ⊢
 have HPS : Hid (pats s) := ps
 have HPY : Hid (pats y) := py
 have HYA : Hid _ := hya
 have PC : Hid (∀ i, i < n → ∃ g, sa = some ⟨g, 0, none⟩ ∧ g < W.heap.size ∧ W.cell? ⟨g, i, none⟩ = some (.int .i64 (s.getD i 0))) := fun i hi => by
  obtain ⟨g, e, gl, gc⟩ := hsa (by omega)
  exact ⟨g, e, Nat.lt_of_lt_of_le gl bel.size, (bel.cell (p := ⟨g, i, none⟩) gl).trans (gc i hi)⟩
 obtain ⟨j0, ji, jz0, jz1, jz2⟩ := info_three Tryz.infoI
 have INF : Hid _ := And.intro ji (And.intro jz0 (And.intro jz1 jz2))
 have hl1 : (c.loss == 1) = false := by simpa using hl
 obtain ⟨ls, hls⟩ : ∃ l, l = c.loss := ⟨_, rfl⟩
 rw [← hls] at c6 hl1 FIN ⊢
 clear hs hy hsa hya b0 bel hW hws hX k6 ji jz0 jz1 jz2 hn hny hl ps py hls
 go_enter Tryz.func108, Tryz.ntmps108
 go_upto_region 1 with fail
 rw [HW.out]
 go_wp2
 clear c6
 go_loopw [17, 18] (fun lv iv wr => ∃ i : Nat, i ≤ n ∧ iv = .int .i64 i ∧ Hid (OutI wr W.heap.size lv (WRG s y i)) ∧ Hid (Below W.heap.size W wr)) (fun _ iv _ => n - (intOf iv).toNat)
 case atStart => exact ⟨0, by omega, rfl, World.ownsRow_nil _ _ _ _, Below.refl _ _⟩
 case round =>
  obtain ⟨i, hi, rfl, OW, BW⟩ := hrel
  by_cases hlt : i < n
  · obtain ⟨gp, rfl, PL, pi0⟩ := PC.out i hlt
    obtain ⟨gy, rfl, YL, YC⟩ := HYA.out (by omega)
    have YLb : gy < W.heap.size := Nat.lt_of_lt_of_le YL BE.out.size
    have yi : wr.cell? ⟨gy, i, none⟩ = some (.int .i64 (y.getD i 0)) := (BW.out.cell (p := ⟨gy, i, none⟩) YLb).trans ((BE.out.cell (p := ⟨gy, i, none⟩) YL).trans (YC i (by omega)))
    have pi : wr.cell? ⟨gp, i, none⟩ = some (.int .i64 (s.getD i 0)) := (BW.out.cell (p := ⟨gp, i, none⟩) PL).trans pi0
    have LT : Hid (gp < wr.heap.size ∧ gy < wr.heap.size) := ⟨Nat.lt_of_lt_of_le PL BW.out.size, Nat.lt_of_lt_of_le YLb BW.out.size⟩
    have bA := pats_at HPS.out i
    have bB := pats_at HPY.out i
    have SUC0 : WRG s y (i + 1) = WRG s y i ++ [SUB (s.getD i 0) (y.getD i 0)] := WRG_succ s y i
    obtain ⟨A, hA⟩ : ∃ a, a = s.getD i 0 := ⟨_, rfl⟩
    obtain ⟨Y, hY⟩ : ∃ a, a = y.getD i 0 := ⟨_, rfl⟩
    rw [← hA] at pi bA SUC0
    rw [← hY] at yi bB SUC0
    have SB : Hid (∀ V, Calls Tryz.prog 43 #[.int .i64 A, .int .i64 Y] V fun e w' => e = .returned (.int .i64 (SUB A Y)) ∧ Below V.heap.size V w') := fun V => rsub_any A Y V bA.1 bA.2 bB.1 bB.2
    obtain ⟨R, hR⟩ : ∃ a, a = SUB A Y := ⟨_, rfl⟩
    rw [← hR] at SB SUC0
    obtain ⟨LS, hLS⟩ : ∃ l, l = WRG s y i := ⟨_, rfl⟩
    have LL : Hid (LS.length = i) := by show _ = _; rw [hLS]; simp [WRG, SHR, EXS]
    have c3 : Hid (LS.length + 1 ≤ maxLen) := by show _ ≤ _; rw [LL.out]; unfold maxLen; omega
    have c4 : Hid ((LS.length + 1) * 8 ≤ 140737488355328) := by show _ ≤ _; rw [LL.out]; omega
    rw [← hLS] at OW SUC0
    have SUC : Hid _ := SUC0
    obtain ⟨ua, uc, hu9, -⟩ := row_at OW.out
    have il : (i : Int) < (n : Int) := by omega
    have il2 : (i : Int) < (ny : Int) := by omega
    have i0 : (0 : Int) ≤ (i : Int) := by omega
    have S0 : wr.drew.cell? ⟨gp, i, none⟩ = some (.int .i64 A) ∧ wr.drew.cell? ⟨gy, i, none⟩ = some (.int .i64 Y) := ⟨pi, yi⟩
    clear hA hY hR hLS PL pi0 YL YC YLb SUC0
    subst hu9
    go_upto_region 28 with fail
    go_region_held3 (fun w' => w'.cell? ⟨gp, i, none⟩ = some (.int .i64 A) ∧ w'.cell? ⟨gy, i, none⟩ = some (.int .i64 Y)) (assumption) (first
     | (go_at_call 43; refine (SB.out _).mono ?_; rintro e w1 ⟨rfl, hb⟩
        have S1 : w1.cell? ⟨gp, i, none⟩ = some (.int .i64 A) ∧ w1.cell? ⟨gy, i, none⟩ = some (.int .i64 Y) := ⟨(hb.cell (p := ⟨gp, i, none⟩) LT.out.1).trans pi, (hb.cell (p := ⟨gy, i, none⟩) LT.out.2).trans yi⟩
        have HBv : Hid (Below wr.heap.size wr w1) := ((Below.refl _ _).drew).trans hb
        clear hb))
    have OA : Hid ((w1.alloc (.cells #[.int .i64 R] 3)).ownsRow W.heap.size 3 1 (.slice ua LS.length uc) LS.length (ints LS)) := World.ownsRow.alloc (owns_below OW.out HBv.out) _
    have BA : Hid (Below W.heap.size W (w1.alloc (.cells #[.int .i64 R] 3))) := (BW.out.trans (HBv.out.mono BW.out.size)).alloc (Nat.le_trans BW.out.size HBv.out.size) _
    have c6 : Hid (W.heap.size ≤ (w1.alloc (.cells #[.int .i64 R] 3)).heap.size) := BA.out.size
    clear S0 S1 pi yi
    go_wp2_with (first
     | (at_builtin; refine wpList_append_lies _ rfl _ _ 47 rfl W.heap.size 3 j0 _ 1 8 Tryz.underlying47 INF.out.1 INF.out.2.1 INF.out.2.2.1 INF.out.2.2.2 rfl (by decide) _ _ _ rfl OA.out ⟨w1.heap.size, 0, none⟩ 1 1 [.int .i64 R] rfl rfl (one_cell3 _ _ rfl _) (one_c _ rfl) (by decide) c3.out c4.out c6.out _ rfl ?_
        intro g2 cap2 w5 hown hgrow hat hlt2
        have O5 : Hid (OutI w5 W.heap.size (.slice (some ⟨g2, 0, none⟩) (LS.length + 1) cap2) (LS ++ [R])) := by
         show World.ownsRow _ _ _ _ _ _ _
         rw [← ints_app, List.length_append]; exact hown
        have E5 : Hid (Below W.heap.size W w5) := BA.out.grown hgrow BA.out.size fun b hb => (World.ownsRow.lt OA.out b hb).1
        clear hown hgrow hat hlt2))
    go_roundw
    case rel => exact ⟨i + 1, by omega, by go_num, by rw [SUC.out]; exact O5.out, E5.out⟩
    case measure => simp [intOf]; omega
  · have hie : i = n := by omega
    subst hie
    obtain ⟨ua, uc, hu9, -⟩ := row_at OW.out
    subst hu9
    go_wp2
    go_ret
    exact ⟨_, rfl, by rw [FIN.out]; exact Go.Joins.ownsRow_le OW.out BE.out.size, BE.out.trans (BW.out.mono BE.out.size)⟩
end Go.Proofs.YtoihkljlekknkaaGreat
