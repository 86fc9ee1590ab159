/-
  A layer's sums, by the document. Conditions: the widths are 1 to 4 where they are asked; the patterns are 0 to 2^32 - 1; there are as many parameters and answers as wanted.
-/
import Derived.Test.YtoihkljlekknkaaGreatAr1
import Derived.Test.YtoihkljlekknkaaGreatPk3
import Derived.Test.YtoihkljlekknkaaGreatRefOf
import Derived.Test.YtoihkljlekknkaaGreatInts
import Derived.Deep.AppendLies
import Derived.Laws.OwnMore
import Derived.Lib.SmallJoins
namespace Go.Proofs.YtoihkljlekknkaaGreat
open Go.RowKit
open Go.Joins (block_setCell cell_of_block unfrozen_of_block)
set_option linter.unusedVariables false
set_option linter.unusedSimpArgs false
/-- whole numbers in memory -/
def OutI (w : World) (base : Nat) (v : Value) (l : List Int) : Prop := w.ownsRow base 3 1 v l.length (ints l)
def pats (l : List Int) : Prop := ∀ x ∈ l, 0 ≤ x ∧ x < 4294967296
theorem pats_at {l : List Int} (h : pats l) (i : Nat) : 0 ≤ l.getD i 0 ∧ l.getD i 0 < 4294967296 := by
 by_cases hi : i < l.length
 · rw [List.getD_eq_getElem?_getD, List.getElem?_eq_getElem hi]; exact h _ (List.getElem_mem hi)
 · rw [List.getD_eq_getElem?_getD, List.getElem?_eq_none (by omega)]; exact ⟨by show (0 : Int) ≤ 0; omega, by show (0 : Int) < _; omega⟩
/-- a unit's sum, as far as input i -/
def DOT (par x : List Int) (p : Nat) : Nat → Int
 | 0 => par.getD p 0
 | i + 1 => ADD (DOT par x p i) (MUL (par.getD (p + 1 + i) 0) (x.getD i 0))
theorem DOT_bd {par x : List Int} (hp : pats par) (p i : Nat) : 0 ≤ DOT par x p i ∧ DOT par x p i < 4294967296 := by
 induction i with
 | zero => exact pats_at hp p
 | succ i ih => have := MUL_bd' (par.getD (p + 1 + i) 0) (x.getD i 0); exact ADD_bd _ _ ih.1 ih.2 this.1 this.2
/-- the sums of a layer's first units: its parameters begin at s0, the layer ahead is n0 wide -/
def SUMS (par x : List Int) (s0 n0 : Nat) (m : Nat) : List Int := (List.range m).map fun j => DOT par x (s0 + j * (n0 + 1)) n0
theorem SUMS_succ (par x : List Int) (s0 n0 m : Nat) : SUMS par x s0 n0 (m + 1) = SUMS par x s0 n0 m ++ [DOT par x (s0 + m * (n0 + 1)) n0] := by unfold SUMS; rw [List.range_succ, List.map_append]; rfl
theorem SUMS_len (par x : List Int) (s0 n0 m : Nat) : (SUMS par x s0 n0 m).length = m := by simp [SUMS]
theorem SUMS_pats {par : List Int} (hp : pats par) (x : List Int) (s0 n0 m : Nat) : pats (SUMS par x s0 n0 m) := fun v hv => by
 obtain ⟨j, _, rfl⟩ := List.mem_map.1 hv
 exact DOT_bd hp _ _
/-- the configuration lies in its block; nothing old has turned -/
def SSw (w : World) (g : Nat) (cs : List Value) (w' : World) : Prop := w'.rangeAt g 0 cs ∧ g < w'.heap.size ∧ Below w.heap.size w w'
theorem keepSS {w W w2 : World} {g : Nat} {cs : List Value} (h : SSw w g cs W) (hb : Below W.heap.size W w2) : SSw w g cs w2 :=
 ⟨rangeAt_below h.1 h.2.1 hb, Nat.lt_of_lt_of_le h.2.1 hb.size, h.2.2.trans (hb.mono h.2.2.size)⟩
theorem SSw.drew {w W : World} {g : Nat} {cs : List Value} (h : SSw w g cs W) : SSw w g cs W.drew := keepSS h ((Below.refl _ _).drew)
theorem info_three {P : Program} {e : TypeId} {z : Value} {s b : Nat} (h : (P.info? e).map (fun i => (i.zero, i.size, i.bytes)) = some (some z, s, b)) : ∃ i, P.info? e = some i ∧ i.zero = some z ∧ i.size = s ∧ i.bytes = b := by
 cases hi : P.info? e with
 | none => rw [hi] at h; cases h
 | some i =>
   rw [hi] at h
   simp at h
   exact ⟨i, rfl, h.1, h.2.1, h.2.2⟩
theorem one_cell3 (w : World) (b : Nat) (hb : b = w.heap.size) (x : Value) : ∀ j u, [x][j]? = some u → (w.alloc (.cells #[x] 3)).cell? ((⟨b, 0, none⟩ : Addr).add j) = some u := by
 subst hb
 intro j u hu
 match j, hu with
 | 0, hu =>
   simp at hu
   subst hu
   simp [Addr.add]
theorem one_c (x : Value) (h : x.oneCell' = true) : ∀ u ∈ [x], u.oneCell' = true := by
 intro u hu
 rw [List.mem_singleton.1 hu]; exact h
theorem row_at {w : World} {base : Nat} {v : Value} {l : List Int} (h : OutI w base v l) : ∃ a cap, v = .slice a l.length cap ∧ (0 < l.length → ∃ g, a = some ⟨g, 0, none⟩ ∧ g < w.heap.size ∧ ∀ i, i < l.length → w.cell? ⟨g, i, none⟩ = some (.int .i64 (l.getD i 0))) := by
 rcases Go.Joins.ownsRow_forms h with ⟨rfl, h0⟩ | ⟨g, cap, rfl⟩
 · exact ⟨_, _, by rw [h0], fun q => absurd q (by omega)⟩
 · exact ⟨_, _, rfl, fun _ => ⟨g, rfl, (World.ownsRow.lt h g rfl).2, fun i hi => (World.ownsRow.cellAt h i (by omega)).trans (ints_at l i hi)⟩⟩
theorem owns_kind {w : World} {base : Nat} {t u : TypeId} {sz : Nat} {v : Value} {n g : Nat} {xs : List Value} {X : Array Value} (h : w.ownsRow base t sz v n xs) (hv : v.ownBlock = some g) (hg : w.heap[g]? = some (.cells X u (0, 0))) (hn : t ≠ u) : False := by
 rcases h.2 with ⟨rfl, _⟩ | ⟨g', cap, cur, rfl, h1, h2, h3⟩
 · simp [Value.ownBlock] at hv
 · have e : g' = g := by simpa [Value.ownBlock] using hv
   subst e
   rw [h2] at hg
   injection hg with e1
   injection e1 with _ e2 _
   exact hn e2
theorem owns_below {w w' : World} {base : Nat} {t : TypeId} {sz : Nat} {v : Value} {n : Nat} {xs : List Value} (h : w.ownsRow base t sz v n xs) (hb : Below w.heap.size w w') : w'.ownsRow base t sz v n xs := by
 refine ⟨h.1, ?_⟩
 rcases h.2 with h' | ⟨g, cap, cur, rfl, h1, h2, h3⟩
 · exact Or.inl h'
 · exact Or.inr ⟨g, cap, cur, rfl, h1, by rw [hb.block g (World.ownsRow.lt h g rfl).2]; exact h2, h3⟩
set_option maxHeartbeats 8000000 in
set_option maxRecDepth 100000 in
theorem sums_any (c : Cf) (hw : WB c) (q n0 n1 s0 : Nat) (hq : q < 3) (e0 : wd c q = (n0 : Int)) (e1 : wd c (q + 1) = (n1 : Int)) (es : stN c (q + 1) = (s0 : Int)) (par x : List Int) (vp vx : Value) (bp bx : Nat) (w : World)
 (hp : OutI w bp vp par) (hx : OutI w bx vx x) (pp : pats par) (px : pats x) (lp : s0 + n1 * (n0 + 1) ≤ par.length) (lx : n0 ≤ x.length) (bpl : par.length < 4611686018427387904) (bxl : x.length < 4611686018427387904) :
 Calls Tryz.prog 106 #[.agg (rcs c), vp, .int .i64 ((q : Int) + 1), vx] w fun e w' => ∃ v, e = .returned v ∧ OutI w' w.heap.size v (SUMS par x s0 n0 n1) ∧ Below w.heap.size w w' := by
 have m0 := hw q (by omega)
 have m1 := hw (q + 1) (by omega)
 have sb := stN_bd c hw (q + 1) (by omega)
 have WT : Hid (∀ (W : World) (j i : Int), 0 ≤ j ∧ j ≤ 4 → -1 ≤ i ∧ i ≤ 4 → Calls Tryz.prog 109 #[.agg (rcs c), .int .i64 ((q : Int) + 1), .int .i64 j, .int .i64 i] W fun e w' => e = .returned (.int .i64 ((s0 : Int) + j * ((n0 : Int) + 1) + 1 + i)) ∧ Below W.heap.size W w') := fun W j i hj hi => by
  have := weight_any c hw (q + 1) (by omega) (by omega) j hj i hi W
  rw [es, show q + 1 - 1 = q by omega, e0] at this
  exact this
 have IC : (Tryz.prog.info? 24).map (·.size) = some (rcs c).toList.length := by rw [Array.length_toList]; exact infoC c
 have IC2 := infoC c
 have k0 : (rcs c)[1 + q]? = some (.int .i64 (n0 : Int)) := by rw [← e0]; exact rcs_wide c q (by omega)
 have k1 : (rcs c)[1 + (q + 1)]? = some (.int .i64 (n1 : Int)) := by rw [← e1]; exact rcs_wide c (q + 1) (by omega)
 obtain ⟨X, hX⟩ : ∃ X, X = rcs c := ⟨_, rfl⟩
 rw [← hX] at WT IC IC2 k0 k1 ⊢
 obtain ⟨W, hW, b0, bel, hws⟩ := one_block w X 24
 have R0 : Hid (∀ {W'}, SSw w w.heap.size X.toList W' → W'.cell? ⟨w.heap.size, 1 + q, none⟩ = some (.int .i64 (n0 : Int)) ∧ W'.cell? ⟨w.heap.size, 1 + (q + 1), none⟩ = some (.int .i64 (n1 : Int))) := fun {W'} h => by
  have a := h.1 (1 + q) _ (by rw [Array.getElem?_toList]; exact k0)
  have b := h.1 (1 + (q + 1)) _ (by rw [Array.getElem?_toList]; exact k1)
  rw [Nat.zero_add] at a b
  exact ⟨a, b⟩
 have S0 : Hid (SSw w w.heap.size X.toList W) := ⟨rng b0, by omega, bel⟩
 have B0 : Hid (W.heap[w.heap.size]? = some (.cells X 24 (0, 0))) := b0
 obtain ⟨pa, pc, rfl, hpa⟩ := row_at hp
 obtain ⟨xa, xc, rfl, hxa⟩ := row_at hx
 obtain ⟨lpn, hlpn⟩ : ∃ l, l = par.length := ⟨_, rfl⟩
 obtain ⟨lxn, hlxn⟩ : ∃ l, l = x.length := ⟨_, rfl⟩
 rw [← hlpn] at lp bpl hpa ⊢
 rw [← hlxn] at lx bxl hxa ⊢
 obtain ⟨j0, ji, jz0, jz1, jz2⟩ := info_three Tryz.infoI
 have INF : Hid _ := And.intro ji (And.intro jz0 (And.intro jz1 jz2))
 have HPA : Hid _ := hpa
 have HXA : Hid _ := hxa
 have HW : Hid _ := hW
 have HI : Hid _ := IC
 have HI2 : Hid _ := IC2
 have HPP : Hid _ := pp
 have HPX : Hid _ := px
 have n04 : n0 ≤ 4 := by omega
 have n14 : n1 ≤ 4 := by omega
 have s60 : s0 ≤ 60 := by omega
 have q3 : (q : Int) < 3 := by omega
 have q0 : (0 : Int) ≤ (q : Int) := by omega
 clear hp hx hpa hxa hW IC IC2 b0 bel hws k0 k1 hX pp px m0 m1 sb e0 e1 es hw ji jz0 jz1 jz2 hlpn hlxn
 go_enter Tryz.func106, Tryz.ntmps106
 go_upto_region 1 with fail
 rw [HW.out]
 go_wp2
 go_loopw [9, 10] (fun lv jv wr => ∃ j : Nat, j ≤ n1 ∧ jv = .int .i64 j ∧ Hid (OutI wr w.heap.size lv (SUMS par x s0 n0 j)) ∧ Hid (SSw w w.heap.size X.toList wr) ∧ Hid (wr.heap[w.heap.size]? = some (.cells X 24 (0, 0)))) (fun _ jv _ => n1 - (intOf jv).toNat)
 case atStart => exact ⟨0, by omega, rfl, World.ownsRow_nil _ _ _ _, S0.out, B0.out⟩
 case round =>
  obtain ⟨j, hj, rfl, OW, SW, BW⟩ := hrel
  obtain ⟨c0, c1⟩ := R0.out SW.out
  by_cases hlt : j < n1
  · have hmul : (j + 1) * (n0 + 1) ≤ n1 * (n0 + 1) := Nat.mul_le_mul_right _ hlt
    obtain ⟨pj, hpj⟩ : ∃ p, p = s0 + j * (n0 + 1) := ⟨_, rfl⟩
    have hpl : pj + n0 + 1 ≤ lpn := by rw [hpj]; rw [Nat.add_mul] at hmul; omega
    obtain ⟨gp, rfl, PL0, PC0⟩ := HPA.out (by omega)
    have PL : Hid (gp < w.heap.size) := PL0
    have PC : Hid (∀ i, i < lpn → w.cell? ⟨gp, i, none⟩ = some (.int .i64 (par.getD i 0))) := PC0
    have W0 : Hid (∀ V, Calls Tryz.prog 109 #[.agg X, .int .i64 ((q : Int) + 1), .int .i64 (j : Int), .int .i64 (-1)] V fun e w' => e = .returned (.int .i64 (pj : Int)) ∧ Below V.heap.size V w') := fun V => by
     have := WT.out V (j : Int) (-1) (by omega) (by omega)
     have e : (s0 : Int) + (j : Int) * ((n0 : Int) + 1) + 1 + -1 = (pj : Int) := by rw [hpj]; simp; omega
     rw [e] at this; exact this
    have SUC : Hid (SUMS par x s0 n0 (j + 1) = SUMS par x s0 n0 j ++ [DOT par x pj n0]) := by show _ = _; rw [SUMS_succ, hpj]
    have WIA : Hid (∀ (V : World) (i : Nat), i < n0 → Calls Tryz.prog 109 #[.agg X, .int .i64 ((q : Int) + 1), .int .i64 (j : Int), .int .i64 (i : Int)] V fun e w' => e = .returned (.int .i64 ((pj + 1 + i : Nat) : Int)) ∧ Below V.heap.size V w') := fun V i hi => by
     have := WT.out V (j : Int) (i : Int) (by omega) (by omega)
     have e : (s0 : Int) + (j : Int) * ((n0 : Int) + 1) + 1 + (i : Int) = ((pj + 1 + i : Nat) : Int) := by rw [hpj]; simp
     rw [e] at this; exact this
    have a0 : Hid (w.cell? ⟨gp, pj, none⟩ = some (.int .i64 (par.getD pj 0))) := PC.out pj (by omega)
    have pl : (pj : Int) < (lpn : Int) := by omega
    have p0 : (0 : Int) ≤ (pj : Int) := by omega
    have D0 : Hid (DOT par x pj 0 = par.getD pj 0) := rfl
    obtain ⟨a, ha⟩ : ∃ a, a = par.getD pj 0 := ⟨_, rfl⟩
    rw [← ha] at a0 D0
    clear hmul PL0 PC0 ha hpj
    go_wp2_with (first
     | (refine wpList_load_row rfl 24 _ rfl w.heap.size rfl 24 X (0, 0) _ BW.out Tryz.underlying24 rfl HI2.out ?_)
     | (go_at_call 109; refine (W0.out _).mono ?_; rintro e w2 ⟨rfl, hb⟩
        have S2 : Hid (SSw w w.heap.size X.toList w2) := keepSS SW.out hb
        have B2 : Hid (w2.heap[w.heap.size]? = some (.cells X 24 (0, 0))) := (hb.block _ SW.out.2.1).trans BW.out
        have O2 : Hid (OutI w2 w.heap.size _ (SUMS par x s0 n0 j)) := owns_below OW.out hb
        have a2 : w2.cell? ⟨gp, pj, none⟩ = some (.int .i64 a) := (S2.out.2.2.cell (p := ⟨gp, pj, none⟩) PL.out).trans a0.out
        clear hb))
    clear a2 c0 c1
    go_loopw [11, 12] (fun vv iv wz => ∃ i : Nat, i ≤ n0 ∧ iv = .int .i64 i ∧ vv = .int .i64 (DOT par x pj i) ∧ Hid (Below w2.heap.size w2 wz)) (fun _ iv _ => n0 - (intOf iv).toNat)
    case atStart => exact ⟨0, by omega, rfl, by rw [D0.out], Below.refl _ _⟩
    case round =>
     obtain ⟨i, hi, rfl, rfl, BZ2⟩ := hrel
     have SZ : Hid (SSw w w.heap.size X.toList wr) := keepSS S2.out BZ2.out
     have BZ : Hid (wr.heap[w.heap.size]? = some (.cells X 24 (0, 0))) := (BZ2.out.block _ S2.out.2.1).trans B2.out
     obtain ⟨c0, c1⟩ := R0.out SZ.out
     by_cases hil : i < n0
     · obtain ⟨gx, rfl, XL0, XC0⟩ := HXA.out (by omega)
       obtain ⟨pi, hpi⟩ : ∃ p, p = pj + 1 + i := ⟨_, rfl⟩
       have WI : Hid (∀ V, Calls Tryz.prog 109 #[.agg X, .int .i64 ((q : Int) + 1), .int .i64 (j : Int), .int .i64 (i : Int)] V fun e w' => e = .returned (.int .i64 (pi : Int)) ∧ Below V.heap.size V w') := fun V => by rw [hpi]; exact WIA.out V i hil
       have xir : wr.cell? ⟨gx, i, none⟩ = some (.int .i64 (x.getD i 0)) := (SZ.out.2.2.cell (p := ⟨gx, i, none⟩) XL0).trans (XC0 i (by omega))
       have air : wr.cell? ⟨gp, pi, none⟩ = some (.int .i64 (par.getD pi 0)) := (SZ.out.2.2.cell (p := ⟨gp, pi, none⟩) PL.out).trans (PC.out pi (by omega))
       have XLr : Hid (gx < wr.heap.size) := Nat.lt_of_lt_of_le XL0 SZ.out.2.2.size
       have PLr : Hid (gp < wr.heap.size) := Nat.lt_of_lt_of_le PL.out SZ.out.2.2.size
       have bA := pats_at HPP.out pi
       have bB := pats_at HPX.out i
       have bD := DOT_bd (x := x) HPP.out pj i
       have SU : Hid (DOT par x pj (i + 1) = ADD (DOT par x pj i) (MUL (par.getD pi 0) (x.getD i 0))) := by show _ = _; rw [hpi]; rfl
       obtain ⟨A, hA⟩ : ∃ a, a = par.getD pi 0 := ⟨_, rfl⟩
       obtain ⟨Bx, hB⟩ : ∃ a, a = x.getD i 0 := ⟨_, rfl⟩
       obtain ⟨Dv, hD⟩ : ∃ a, a = DOT par x pj i := ⟨_, rfl⟩
       rw [← hA] at air bA SU
       rw [← hB] at xir bB SU
       rw [← hD] at bD SU ⊢
       have bM := MUL_bd' A Bx
       have MU0 : ∀ V, Calls Tryz.prog 39 #[.int .i64 A, .int .i64 Bx] V fun e w' => e = .returned (.int .i64 (MUL A Bx)) ∧ Below V.heap.size V w' := fun V => rmul_any A Bx V bA.1 bA.2 bB.1 bB.2
       obtain ⟨Mv, hM⟩ : ∃ a, a = MUL A Bx := ⟨_, rfl⟩
       rw [← hM] at bM SU MU0
       have MU : Hid _ := MU0
       have AD : Hid (∀ V, Calls Tryz.prog 45 #[.int .i64 Dv, .int .i64 Mv] V fun e w' => e = .returned (.int .i64 (ADD Dv Mv)) ∧ Below V.heap.size V w') := fun V => radd_any Dv Mv V bD.1 bD.2 bM.1 bM.2
       have il : (i : Int) < (lxn : Int) := by omega
       have i0 : (0 : Int) ≤ (i : Int) := by omega
       have pil : (pi : Int) < (lpn : Int) := by omega
       have pi0 : (0 : Int) ≤ (pi : Int) := by omega
       clear hA hB hD hM hpi XL0 XC0 MU0
       go_upto_region 9 with fail
       refine wp_region_held_drew (S := fun w' => Below wr.heap.size wr w') (by kernel_rfl) ((Below.refl _ _).drew) (fun hS => ?_)
       refine wpAnyH_take (i := 2) (oi := ⟨some 39, .load 24 (.tmp 4), 24, "train.go:225", #[], none⟩) (v := .agg X.toList.toArray) rfl (by kernel_rfl) (by kernel_rfl) (by kernel_rfl) (fun _ _ _ h => h) (yieldsIf_load_mid (by rfl) 24 _ rfl w.heap.size 0 rfl X.toList _ (fun w h => rng ((h.block _ SZ.out.2.1).trans BZ.out)) Tryz.underlying24 rfl HI.out) hS ?_
       rw [Array.toArray_toList]
       try go_frame
       refine wpAnyH_take (i := 0) (oi := ⟨some 37, .move (.tmp 11), 3, "train.go:225", #[], none⟩) (v := ?_) rfl (by kernel_rfl) (by kernel_rfl) (by kernel_rfl) (fun _ _ _ h => h) (Or.inl ⟨by kernel_rfl, ?_⟩) hS ?_
       rotate_left
       · intro w hSw
         clear hSw
         go_simp
         try with_reducible rfl
       try go_frame
       refine wpAnyH_take (i := 1) (oi := ⟨some 38, .move (.tmp 1), 47, "train.go:225", #[], none⟩) (v := ?_) rfl (by kernel_rfl) (by kernel_rfl) (by kernel_rfl) (fun _ _ _ h => h) (Or.inl ⟨by kernel_rfl, ?_⟩) hS ?_
       rotate_left
       · intro w hSw
         clear hSw
         go_simp
         try with_reducible rfl
       try go_frame
       refine wpAnyH_take (i := 3) (oi := ⟨some 40, .move (.tmp 2), 3, "train.go:225", #[], none⟩) (v := ?_) rfl (by kernel_rfl) (by kernel_rfl) (by kernel_rfl) (fun _ _ _ h => h) (Or.inl ⟨by kernel_rfl, ?_⟩) hS ?_
       rotate_left
       · intro w hSw
         clear hSw
         go_simp
         try with_reducible rfl
       try go_frame
       refine wpAnyH_take (i := 4) (oi := ⟨some 41, .move (.tmp 10), 3, "train.go:225", #[], none⟩) (v := ?_) rfl (by kernel_rfl) (by kernel_rfl) (by kernel_rfl) (fun _ _ _ h => h) (Or.inl ⟨by kernel_rfl, ?_⟩) hS ?_
       rotate_left
       · intro w hSw
         clear hSw
         go_simp
         try with_reducible rfl
       try go_frame
       refine wpAnyH_take (i := 5) (oi := ⟨some 42, .move (.tmp 12), 3, "train.go:225", #[], none⟩) (v := ?_) rfl (by kernel_rfl) (by kernel_rfl) (by kernel_rfl) (fun _ _ _ h => h) (Or.inl ⟨by kernel_rfl, ?_⟩) hS ?_
       rotate_left
       · intro w hSw
         clear hSw
         go_simp
         try with_reducible rfl
       try go_frame
       refine wpAnyH_take (i := 9) (oi := ⟨some 46, .move (.tmp 3), 47, "train.go:225", #[], none⟩) (v := ?_) rfl (by kernel_rfl) (by kernel_rfl) (by kernel_rfl) (fun _ _ _ h => h) (Or.inl ⟨by kernel_rfl, ?_⟩) hS ?_
       rotate_left
       · intro w hSw
         clear hSw
         go_simp
         try with_reducible rfl
       try go_frame
       refine wpAnyH_take (i := 10) (oi := ⟨some 47, .move (.tmp 12), 3, "train.go:225", #[], none⟩) (v := ?_) rfl (by kernel_rfl) (by kernel_rfl) (by kernel_rfl) (fun _ _ _ h => h) (Or.inl ⟨by kernel_rfl, ?_⟩) hS ?_
       rotate_left
       · intro w hSw
         clear hSw
         go_simp
         try with_reducible rfl
       try go_frame
       refine wpAnyH_take (i := 11) (oi := ⟨some 48, .indexAddr 47 (.tmp 46) (.tmp 47), 0, "train.go:225", #[⟨9, .data⟩, ⟨10, .data⟩], none⟩) (v := ?_) rfl (by kernel_rfl) (by kernel_rfl) (by kernel_rfl) (fun _ _ _ h => h) (Or.inl ⟨by kernel_rfl, ?_⟩) hS ?_
       rotate_left
       · intro w hSw
         clear hSw
         go_simp
         try with_reducible rfl
       try go_frame
       refine wpAnyH_take (i := 12) (oi := ⟨some 49, .load 3 (.tmp 48), 3, "train.go:225", #[⟨11, .data⟩], none⟩) (v := ?_) rfl (by kernel_rfl) (by kernel_rfl) (by kernel_rfl) (fun _ _ _ h => h) (Or.inl ⟨by kernel_rfl, ?_⟩) hS ?_
       rotate_left
       · intro w hSw
         have q := (hSw.cell (p := ⟨gx, i, none⟩) XLr.out).trans xir
         clear hSw
         go_simp
         try with_reducible rfl
       try go_frame
       refine wpAnyH_ready (rs := [6]) (by kernel_rfl) (by simp) ?_
       refine AllReadyH.cons (o := ⟨some 43, .call { callee := .value (.func 109), args := #[.tmp 39, .tmp 40, .tmp 41, .tmp 42], argTypes := #[24, 3, 3, 3] }, 3, "train.go:225", #[⟨2, .data⟩, ⟨3, .data⟩, ⟨4, .data⟩, ⟨5, .data⟩], none⟩) rfl (fun K hK => ?_) AllReadyH.nil
       go_simp
       refine (WI.out _).mono ?_
       rintro e w5 ⟨rfl, hb⟩
       have S5 := hS.trans (hb.mono hS.size)
       clear hb hS
       go_wp2_with fail
       refine hK.out _ _ S5 (fun hS => ?_)
       try go_frame
       clear hK K S5
       refine wpAnyH_take (i := 7) (oi := ⟨some 44, .indexAddr 47 (.tmp 38) (.tmp 43), 0, "train.go:225", #[⟨1, .data⟩, ⟨6, .data⟩], none⟩) (v := ?_) rfl (by kernel_rfl) (by kernel_rfl) (by kernel_rfl) (fun _ _ _ h => h) (Or.inl ⟨by kernel_rfl, ?_⟩) hS ?_
       rotate_left
       · intro w hSw
         clear hSw
         go_simp
         try with_reducible rfl
       try go_frame
       refine wpAnyH_take (i := 8) (oi := ⟨some 45, .load 3 (.tmp 44), 3, "train.go:225", #[⟨7, .data⟩], none⟩) (v := ?_) rfl (by kernel_rfl) (by kernel_rfl) (by kernel_rfl) (fun _ _ _ h => h) (Or.inl ⟨by kernel_rfl, ?_⟩) hS ?_
       rotate_left
       · intro w hSw
         have q := (hSw.cell (p := ⟨gp, pi, none⟩) PLr.out).trans air
         clear hSw
         go_simp
         try with_reducible rfl
       try go_frame
       refine wpAnyH_ready (rs := [13]) (by kernel_rfl) (by simp) ?_
       refine AllReadyH.cons (o := ⟨some 50, .call { callee := .value (.func 39), args := #[.tmp 45, .tmp 49], argTypes := #[3, 3] }, 3, "train.go:225", #[⟨8, .data⟩, ⟨12, .data⟩, ⟨6, .chain⟩], none⟩) rfl (fun K hK => ?_) AllReadyH.nil
       go_simp
       refine (MU.out _).mono ?_
       rintro e w6 ⟨rfl, hb⟩
       have S6 := hS.trans (hb.mono hS.size)
       clear hb hS
       go_wp2_with fail
       refine hK.out _ _ S6 (fun hS => ?_)
       try go_frame
       clear hK K S6
       refine wpAnyH_ready (rs := [14]) (by kernel_rfl) (by simp) ?_
       refine AllReadyH.cons (o := ⟨some 51, .call { callee := .value (.func 45), args := #[.tmp 37, .tmp 50], argTypes := #[3, 3] }, 3, "train.go:225", #[⟨0, .data⟩, ⟨13, .data⟩, ⟨13, .chain⟩], none⟩) rfl (fun K hK => ?_) AllReadyH.nil
       go_simp
       refine (AD.out _).mono ?_
       rintro e w7 ⟨rfl, hb⟩
       have S7 := hS.trans (hb.mono hS.size)
       clear hb hS
       go_wp2_with fail
       refine hK.out _ _ S7 (fun hS => ?_)
       try go_frame
       clear hK K S7
       refine wpAnyH_ready (rs := [15]) (by kernel_rfl) (by simp) ?_
       refine AllReadyH.cons (o := ⟨some 11, .assign (.tmp 51), 3, "train.go:225", #[⟨14, .data⟩, ⟨14, .chain⟩, ⟨0, .phase⟩, ⟨1, .phase⟩, ⟨2, .phase⟩, ⟨3, .phase⟩, ⟨4, .phase⟩, ⟨5, .phase⟩, ⟨6, .phase⟩, ⟨7, .phase⟩, ⟨8, .phase⟩, ⟨9, .phase⟩, ⟨10, .phase⟩, ⟨11, .phase⟩, ⟨12, .phase⟩, ⟨13, .phase⟩, ⟨14, .phase⟩], none⟩) rfl (fun K hK => ?_) AllReadyH.nil
       go_simp
       refine hK.out _ _ hS (fun hS => ?_)
       try go_frame
       clear hK K
       have SN : Hid (Below wr.heap.size wr w7) := hS
       clear hS
       refine wpAnyH_done (by kernel_rfl) ?_ _
       go_wp2
       go_roundw
       case rel => exact ⟨i + 1, by omega, by go_num, congrArg _ SU.out.symm, BZ2.out.trans (SN.out.mono BZ2.out.size)⟩
       case measure => simp [intOf]; omega
     · have hie : i = n0 := by omega
       subst hie
       have OZ : Hid (OutI wr w.heap.size u9 (SUMS par x s0 i j)) := owns_below O2.out BZ2.out
       have OA : Hid ((wr.alloc (.cells #[.int .i64 (DOT par x pj i)] 3)).ownsRow w.heap.size 3 1 u9 (SUMS par x s0 i j).length (ints (SUMS par x s0 i j))) := World.ownsRow.alloc OZ.out _
       have c3 : Hid ((SUMS par x s0 i j).length + 1 ≤ maxLen) := by show _ ≤ _; rw [SUMS_len]; unfold maxLen; omega
       have c4 : Hid (((SUMS par x s0 i j).length + 1) * 8 ≤ 140737488355328) := by show _ ≤ _; rw [SUMS_len]; omega
       have BA : Hid (Below w.heap.size w (wr.alloc (.cells #[.int .i64 (DOT par x pj i)] 3))) := SZ.out.2.2.alloc SZ.out.2.2.size _
       have c6 : Hid (w.heap.size ≤ (wr.alloc (.cells #[.int .i64 (DOT par x pj i)] 3)).heap.size) := BA.out.size
       have BK : Hid ((wr.alloc (.cells #[.int .i64 (DOT par x pj i)] 3)).heap[w.heap.size]? = some (.cells X 24 (0, 0))) := (Below.heap_alloc wr _ _ SZ.out.2.1).trans BZ.out
       obtain ⟨Dn, hDn⟩ : ∃ a, a = DOT par x pj i := ⟨_, rfl⟩
       rw [← hDn] at OA BA c6 BK SUC ⊢
       obtain ⟨LS, hLS⟩ : ∃ l, l = SUMS par x s0 i j := ⟨_, rfl⟩
       have LL : Hid (LS.length = j) := by show _ = _; rw [hLS, SUMS_len]
       rw [← hLS] at OA c3 c4 SUC
       obtain ⟨ua, uc, hu9, -⟩ := row_at OZ.out
       clear hDn OZ hLS
       subst hu9
       go_wp2_with (first
        | (at_builtin; refine wpList_append_lies _ rfl _ _ 47 rfl w.heap.size 3 j0 _ 1 8 Tryz.underlying47 INF.out.1 INF.out.2.1 INF.out.2.2.1 INF.out.2.2.2 rfl (by decide) _ _ _ rfl OA.out ⟨wr.heap.size, 0, none⟩ 1 1 [.int .i64 Dn] rfl rfl (one_cell3 _ _ rfl _) (one_c _ rfl) (by decide) c3.out c4.out c6.out _ rfl ?_
           intro g2 cap2 w5 hown hgrow hat hlt2
           have O5 : Hid (OutI w5 w.heap.size (.slice (some ⟨g2, 0, none⟩) (LS.length + 1) cap2) (LS ++ [Dn])) := by
            show World.ownsRow _ _ _ _ _ _ _
            rw [← ints_app, List.length_append]; exact hown
           have B5 : Hid (w5.heap[w.heap.size]? = some (.cells X 24 (0, 0))) := (hgrow.block _ (Nat.lt_of_lt_of_le SZ.out.2.1 (by simp)) (fun e => owns_kind OA.out e.symm BK.out (by decide))).trans BK.out
           have E5 : Hid (Below w.heap.size w w5) := BA.out.grown hgrow BA.out.size fun b hb => (World.ownsRow.lt OA.out b hb).1
           have Z5 : Hid (w.heap.size < w5.heap.size) := Nat.lt_of_lt_of_le (Nat.lt_of_lt_of_le SZ.out.2.1 (by simp)) hgrow.size
           clear hown hgrow hat hlt2))
       go_roundw
       case rel => exact ⟨j + 1, by omega, by go_num, by rw [SUC.out]; exact O5.out, ⟨rng B5.out, Z5.out, E5.out⟩, B5.out⟩
       case measure => simp [intOf]; omega
  · have hje : j = n1 := by omega
    subst hje
    obtain ⟨ua, uc, hu9, -⟩ := row_at OW.out
    subst hu9
    go_wp2
    go_ret
    exact ⟨_, rfl, OW.out, SW.out.2.2⟩
end Go.Proofs.YtoihkljlekknkaaGreat
/-
  A layer's sums, of the program. Conditions: the patterns are 0 to 2^32 - 1; the numbers are small; the blocks are apart.
-/
namespace Go.Proofs.YtoihkljlekknkaaGreat
open Go.RowKit
open Go.Joins (cell_of_block unfrozen_of_block)
set_option linter.unusedVariables false
set_option linter.unusedSimpArgs false
/-- all old blocks but these are as they were -/
structure But (O : Nat → Prop) (w w' : World) : Prop where
 os : w'.os = w.os
 tape : w'.tape = w.tape
 output : w'.output = w.output
 size : w.heap.size ≤ w'.heap.size
 block : ∀ k, k < w.heap.size → ¬ O k → w'.heap[k]? = w.heap[k]?
theorem But.refl (O : Nat → Prop) (w : World) : But O w w := ⟨rfl, rfl, rfl, Nat.le_refl _, fun _ _ _ => rfl⟩
theorem But.trans {O : Nat → Prop} {a b c : World} (h : But O a b) (k : But O b c) : But O a c :=
 ⟨k.os.trans h.os, k.tape.trans h.tape, k.output.trans h.output, Nat.le_trans h.size k.size, fun j hj hO => (k.block j (Nat.lt_of_lt_of_le hj h.size) hO).trans (h.block j hj hO)⟩
theorem But.mono {O P : Nat → Prop} {a b : World} (h : But O a b) (k : ∀ j, O j → P j) : But P a b := ⟨h.os, h.tape, h.output, h.size, fun j hj hP => h.block j hj fun hO => hP (k j hO)⟩
theorem But.below {O : Nat → Prop} {w w' : World} (h : Below w.heap.size w w') : But O w w' := ⟨h.os, h.tape, h.output, h.size, fun k hk _ => h.block k hk⟩
theorem But.set {O : Nat → Prop} (w : World) (b o : Nat) (v : Value) (h : O b) : But O w (w.setCell ⟨b, o, none⟩ v) :=
 ⟨rfl, rfl, rfl, Nat.le_of_eq (by simp [World.setCell]), fun k _ hO => Below.heap_setCell w ⟨b, o, none⟩ v k (fun e => hO (e ▸ h))⟩
theorem But.cell {O : Nat → Prop} {w w' : World} (h : But O w w') {g : Nat} (hg : g < w.heap.size) (hO : ¬ O g) (i : Nat) : w'.cell? ⟨g, i, none⟩ = w.cell? ⟨g, i, none⟩ := by
 simp only [World.cell?, h.block g hg hO]
theorem heap_set (w : World) (b o : Nat) (x : Value) (c : Array Value) (t : TypeId) (f : Nat × Nat) (h : w.heap[b]? = some (.cells c t f)) : (w.setCell ⟨b, o, none⟩ x).heap[b]? = some (.cells (c.setIfInBounds o x) t f) := by
 simp [World.setCell, Array.getElem?_modify, h]
theorem heap_set_ne (w : World) (b o k : Nat) (x : Value) (h : k ≠ b) : (w.setCell ⟨b, o, none⟩ x).heap[k]? = w.heap[k]? := Below.heap_setCell w ⟨b, o, none⟩ x k h
theorem lt_of_heap {w : World} {g : Nat} {c : Array Value} {t : TypeId} {f : Nat × Nat} (h : w.heap[g]? = some (.cells c t f)) : g < w.heap.size := (Array.getElem?_eq_some_iff.1 h).1
/-- patterns in memory -/
def u32s (l : List Int) : Array Value := (l.map fun x => Value.int .u32 x).toArray
theorem u32s_at (l : List Int) (i : Nat) (h : i < l.length) : (u32s l)[i]? = some (.int .u32 (l.getD i 0)) := by
 unfold u32s; rw [List.getElem?_toArray, List.getElem?_map, List.getElem?_eq_getElem h, List.getD_eq_getElem?_getD, List.getElem?_eq_getElem h]; rfl
theorem u32s_size (l : List Int) : (u32s l).size = l.length := by simp [u32s]
theorem u32s_of (S : Array Value) (l : List Int) (hn : S.size = l.length) (h : ∀ i, i < l.length → S[i]? = some (.int .u32 (l.getD i 0))) : S = u32s l := by
 apply Array.ext_getElem?
 intro i
 by_cases hi : i < l.length
 · rw [h i hi, u32s_at l i hi]
 · rw [Array.getElem?_eq_none (by omega), Array.getElem?_eq_none (by rw [u32s_size]; omega)]
theorem SUMS_at (par x : List Int) (s0 n0 m i : Nat) (h : i < m) : (SUMS par x s0 n0 m).getD i 0 = DOT par x (s0 + i * (n0 + 1)) n0 := by
 unfold SUMS; rw [List.getD_eq_getElem?_getD, List.getElem?_map, List.getElem?_range h]; rfl
set_option maxHeartbeats 4000000 in
set_option maxRecDepth 100000 in
theorem ladd_any (B o gs gp gg og np cp cg ns cs f a : Nat) (C S : Array Value) (t : TypeId) (par x : List Int) (w : World)
 (hB : w.heap[B]? = some (.cells C t (0, 0))) (c0 : C[o]? = some (.int .i64 (a : Int))) (c2 : C[o + 2]? = some (.int .i64 (f : Int))) (c3 : o + 3 < C.size) (c4 : C[o + 4]? = some (.slice (some ⟨gs, 0, none⟩) ns cs))
 (hs : w.heap[gs]? = some (.cells S 29 (0, 0))) (Ss : S.size = ns)
 (gpl : gp < w.heap.size) (hp : ∀ i, i < np → w.cell? ⟨gp, i, none⟩ = some (.int .u32 (par.getD i 0)))
 (ggl : gg < w.heap.size) (hx : ∀ i, i < a → w.cell? ⟨gg, og + i, none⟩ = some (.int .u32 (x.getD i 0)))
 (n1 : B ≠ gs) (n2 : gp ≠ B) (n3 : gp ≠ gs) (n4 : gg ≠ B) (n5 : gg ≠ gs) (pp : pats par) (px : pats x)
 (a4 : a ≤ 4) (ns4 : ns ≤ 4) (f4 : f ≤ 100) (hnp : f + ns * (a + 1) ≤ np) (np4 : np ≤ 1000) (og4 : og ≤ 1000) :
 Calls Tryz.prog 113 #[.pointer (some ⟨B, o, none⟩), .slice (some ⟨gp, 0, none⟩) np cp, .slice (some ⟨gg, og, none⟩) a cg] w fun e w' =>
  e = .returned (.tuple #[]) ∧ w'.heap[B]? = some (.cells (C.setIfInBounds (o + 3) (.slice (some ⟨gg, og, none⟩) a cg)) t (0, 0)) ∧ w'.heap[gs]? = some (.cells (u32s (SUMS par x f a ns)) 29 (0, 0)) ∧ But (fun k => k = B ∨ k = gs) w w' := by
 obtain ⟨v3, hv3⟩ : ∃ v, C[o + 3]? = some v := ⟨C[o + 3], Array.getElem?_eq_getElem c3⟩
 have d3 : w.cell? ⟨B, o + 3, none⟩ = some v3 := (cell_of_block hB _).trans hv3
 have fz : w.frozen? ⟨B, o + 3, none⟩ = false := unfrozen_of_block hB _
 obtain ⟨D, hD⟩ : ∃ D, D = C.setIfInBounds (o + 3) (.slice (some ⟨gg, og, none⟩) a cg) := ⟨_, rfl⟩
 have D0 : D[o]? = some (.int .i64 (a : Int)) := by rw [hD, Array.getElem?_setIfInBounds_ne (by omega)]; exact c0
 have D2 : D[o + 2]? = some (.int .i64 (f : Int)) := by rw [hD, Array.getElem?_setIfInBounds_ne (by omega)]; exact c2
 have D4 : D[o + 4]? = some (.slice (some ⟨gs, 0, none⟩) ns cs) := by rw [hD, Array.getElem?_setIfInBounds_ne (by omega)]; exact c4
 rw [← hD]
 obtain ⟨W, hW⟩ : ∃ W, W = w.setCell ⟨B, o + 3, none⟩ (.slice (some ⟨gg, og, none⟩) a cg) := ⟨_, rfl⟩
 have WB0 : W.heap[B]? = some (.cells D t (0, 0)) := by rw [hW, hD]; exact heap_set w B _ _ C t _ hB
 have WS0 : W.heap[gs]? = some (.cells S 29 (0, 0)) := by rw [hW, heap_set_ne w B _ gs _ (Ne.symm n1)]; exact hs
 have WU0 : But (fun k => k = B ∨ k = gs) w W := by rw [hW]; exact But.set w B _ _ (Or.inl rfl)
 have e4 : (w.setCell ⟨B, o + 3, none⟩ (.slice (some ⟨gg, og, none⟩) a cg)).cell? ⟨B, o + 4, none⟩ = some (.slice (some ⟨gs, 0, none⟩) ns cs) := by rw [← hW]; exact (cell_of_block WB0 _).trans D4
 have PC : Hid (∀ {V}, But (fun k => k = B ∨ k = gs) w V → ∀ i, i < np → V.cell? ⟨gp, i, none⟩ = some (.int .u32 (par.getD i 0))) := fun {V} h i hi => (h.cell gpl (by rintro (e | e); exact n2 e; exact n3 e) i).trans (hp i hi)
 have XC : Hid (∀ {V}, But (fun k => k = B ∨ k = gs) w V → ∀ i, i < a → V.cell? ⟨gg, og + i, none⟩ = some (.int .u32 (x.getD i 0))) := fun {V} h i hi => (h.cell ggl (by rintro (e | e); exact n4 e; exact n5 e) (og + i)).trans (hx i hi)
 have HB0 : Hid _ := WB0
 have HS0 : Hid _ := WS0
 have HU0 : Hid _ := WU0
 have HD0 : Hid _ := D0
 have HD2 : Hid _ := D2
 have HD4 : Hid _ := D4
 have HPP : Hid _ := pp
 have HPX : Hid _ := px
 have HW : Hid _ := hW
 clear hB c0 c2 c3 c4 hs hp hx hv3 hD WB0 WS0 WU0 D0 D2 D4 pp px hW
 go_enter Tryz.func113, Tryz.ntmps113
 go_wp2
 rw [← HW.out]
 clear HW d3 fz e4 v3
 go_loopw [19] (fun jv wr => ∃ j : Nat, j ≤ ns ∧ jv = .int .i64 j ∧ ∃ T : Array Value, Hid (T.size = ns) ∧ Hid (∀ i, i < j → T[i]? = some (.int .u32 (DOT par x (f + i * (a + 1)) a))) ∧ Hid (wr.heap[B]? = some (.cells D t (0, 0))) ∧ Hid (wr.heap[gs]? = some (.cells T 29 (0, 0))) ∧ Hid (But (fun k => k = B ∨ k = gs) w wr)) (fun jv _ => ns - (intOf jv).toNat)
 case atStart => exact ⟨0, by omega, rfl, S, Ss, fun i hi => absurd hi (by omega), HB0.out, HS0.out, HU0.out⟩
 case round =>
  clear HB0 HS0 HU0
  obtain ⟨j, hj, rfl, T, TS, TI, HB, HS, HU⟩ := hrel
  by_cases hlt : j < ns
  · have hmul : (j + 1) * (a + 1) ≤ ns * (a + 1) := Nat.mul_le_mul_right _ hlt
    obtain ⟨pj, hpj⟩ : ∃ p, p = f + j * (a + 1) := ⟨_, rfl⟩
    have hpl : pj + a + 1 ≤ np := by rw [hpj]; rw [Nat.add_mul] at hmul; omega
    have ep : (f : Int) + (j : Int) * (1 + (a : Int)) = (pj : Int) := by rw [hpj]; simp [Int.add_comm]
    have BI : Hid (Calls Tryz.prog 84 #[.pointer (some ⟨B, o, none⟩), .int .i64 (j : Int)] wr fun e w' => e = .returned (.int .i64 (pj : Int)) ∧ Below wr.heap.size wr w') := by
     have := bias_any B o (f : Int) (a : Int) (j : Int) wr (by omega) (by omega) (by omega) ((cell_of_block HB.out _).trans HD0.out) ((cell_of_block HB.out _).trans HD2.out)
     rw [ep] at this; exact this
    have WT : Hid (∀ V : World, V.heap[B]? = some (.cells D t (0, 0)) → ∀ i : Nat, i < a → Calls Tryz.prog 116 #[.pointer (some ⟨B, o, none⟩), .int .i64 (j : Int), .int .i64 (i : Int)] V fun e w' => e = .returned (.int .i64 ((pj + 1 + i : Nat) : Int)) ∧ Below V.heap.size V w') := fun V hV i hi => by
     have := pweight_any B o (f : Int) (a : Int) (j : Int) (i : Int) V (by omega) (by omega) (by omega) (by omega) ((cell_of_block hV _).trans HD0.out) ((cell_of_block hV _).trans HD2.out)
     rw [ep, show (pj : Int) + 1 + (i : Int) = ((pj + 1 + i : Nat) : Int) by omega] at this; exact this
    have PJ : Hid (f + j * (a + 1) = pj) := hpj.symm
    have a0 : Hid (wr.cell? ⟨gp, pj, none⟩ = some (.int .u32 (par.getD pj 0))) := PC.out HU.out pj (by omega)
    have pl : (pj : Int) < (np : Int) := by omega
    have p0 : (0 : Int) ≤ (pj : Int) := by omega
    have E0 : Hid (DOT par x pj 0 = par.getD pj 0) := rfl
    obtain ⟨av, ha⟩ : ∃ a, a = par.getD pj 0 := ⟨_, rfl⟩
    rw [← ha] at a0 E0
    have gpr : Hid (gp < wr.heap.size) := Nat.lt_of_lt_of_le gpl HU.out.size
    clear hmul ha hpj ep
    go_wp2_with (first
     | (go_at_call 84; refine BI.out.mono ?_; rintro e w2 ⟨rfl, hb⟩
        have B2 : Hid (w2.heap[B]? = some (.cells D t (0, 0))) := (hb.block _ (lt_of_heap HB.out)).trans HB.out
        have S2 : Hid (w2.heap[gs]? = some (.cells T 29 (0, 0))) := (hb.block _ (lt_of_heap HS.out)).trans HS.out
        have U2 : Hid (But (fun k => k = B ∨ k = gs) w w2) := HU.out.trans (But.below hb)
        have a2 : w2.cell? ⟨gp, pj, none⟩ = some (.int .u32 av) := (hb.cell (p := ⟨gp, pj, none⟩) gpr.out).trans a0.out
        clear hb))
    clear a2 a0 BI HB HS HU gpr
    go_loopw [7, 30] (fun vv iv wz => ∃ i : Nat, i ≤ a ∧ iv = .int .i64 i ∧ vv = .int .u32 (DOT par x pj i) ∧ Hid (Below w2.heap.size w2 wz)) (fun _ iv _ => a - (intOf iv).toNat)
    case atStart => exact ⟨0, by omega, rfl, by rw [E0.out], Below.refl _ _⟩
    case round =>
     obtain ⟨i, hi, rfl, rfl, BZ⟩ := hrel
     have B3 : Hid (wr.heap[B]? = some (.cells D t (0, 0))) := (BZ.out.block _ (lt_of_heap B2.out)).trans B2.out
     have S3 : Hid (wr.heap[gs]? = some (.cells T 29 (0, 0))) := (BZ.out.block _ (lt_of_heap S2.out)).trans S2.out
     have U3 : Hid (But (fun k => k = B ∨ k = gs) w wr) := U2.out.trans (But.below BZ.out)
     by_cases hil : i < a
     · obtain ⟨pi, hpi⟩ : ∃ p, p = pj + 1 + i := ⟨_, rfl⟩
       have WI : Hid (Calls Tryz.prog 116 #[.pointer (some ⟨B, o, none⟩), .int .i64 (j : Int), .int .i64 (i : Int)] wr fun e w' => e = .returned (.int .i64 (pi : Int)) ∧ Below wr.heap.size wr w') := by rw [hpi]; exact WT.out wr B3.out i hil
       have xir : wr.cell? ⟨gg, og + i, none⟩ = some (.int .u32 (x.getD i 0)) := XC.out U3.out i hil
       have air : Hid (wr.cell? ⟨gp, pi, none⟩ = some (.int .u32 (par.getD pi 0))) := PC.out U3.out pi (by omega)
       have gpr : Hid (gp < wr.heap.size) := Nat.lt_of_lt_of_le gpl U3.out.size
       have bA := pats_at HPP.out pi
       have bB := pats_at HPX.out i
       have bD := DOT_bd (x := x) HPP.out pj i
       have SU : Hid (DOT par x pj (i + 1) = ADD (DOT par x pj i) (MUL (par.getD pi 0) (x.getD i 0))) := by show _ = _; rw [hpi]; rfl
       obtain ⟨A, hA⟩ : ∃ a, a = par.getD pi 0 := ⟨_, rfl⟩
       obtain ⟨Bx, hB⟩ : ∃ a, a = x.getD i 0 := ⟨_, rfl⟩
       obtain ⟨Dv, hD⟩ : ∃ a, a = DOT par x pj i := ⟨_, rfl⟩
       rw [← hA] at air bA SU
       rw [← hB] at xir bB SU
       rw [← hD] at bD SU ⊢
       have bM := MUL_bd' A Bx
       have MU0 : ∀ V, Calls Tryz.prog 61 #[.int .u32 A, .int .u32 Bx] V fun e w' => e = .returned (.int .u32 (MUL A Bx)) ∧ w' = V := fun V => mul_any A Bx V bA.1 bA.2 bB.1 bB.2
       obtain ⟨Mv, hM⟩ : ∃ a, a = MUL A Bx := ⟨_, rfl⟩
       rw [← hM] at bM SU MU0
       have MU : Hid _ := MU0
       have AD : Hid (∀ V, Calls Tryz.prog 56 #[.int .u32 Dv, .int .u32 Mv] V fun e w' => e = .returned (.int .u32 (ADD Dv Mv)) ∧ w' = V) := fun V => add_any Dv Mv V bD.1 bD.2 bM.1 bM.2
       have il : (i : Int) < (a : Int) := by omega
       have i0 : (0 : Int) ≤ (i : Int) := by omega
       have pil : (pi : Int) < (np : Int) := by omega
       have pi0 : (0 : Int) ≤ (pi : Int) := by omega
       clear hA hB hD hM hpi MU0
       go_wp2_with (first
        | (go_at_call 116; refine WI.out.mono ?_; rintro e w5 ⟨rfl, hb⟩
           have B5 : Hid (Below w2.heap.size w2 w5) := BZ.out.trans (hb.mono BZ.out.size)
           have a5 : w5.cell? ⟨gp, pi, none⟩ = some (.int .u32 A) := (hb.cell (p := ⟨gp, pi, none⟩) gpr.out).trans air.out
           clear hb)
        | (go_at_call 61; refine (MU.out _).mono ?_; rintro e w6 ⟨rfl, hw'⟩; subst w6)
        | (go_at_call 56; refine (AD.out _).mono ?_; rintro e w7 ⟨rfl, hw'⟩; subst w7))
       go_roundw
       case rel => exact ⟨i + 1, by omega, by go_num, congrArg _ SU.out.symm, B5.out⟩
       case measure => simp [intOf]; omega
     · have hie : i = a := by omega
       subst hie
       have e4 : wr.cell? ⟨B, o + 4, none⟩ = some (.slice (some ⟨gs, 0, none⟩) ns cs) := (cell_of_block B3.out _).trans HD4.out
       obtain ⟨tv, htv⟩ : ∃ v, T[j]? = some v := ⟨T[j]'(by rw [TS.out]; exact hlt), Array.getElem?_eq_getElem _⟩
       have ej : wr.cell? ⟨gs, j, none⟩ = some tv := (cell_of_block S3.out _).trans htv
       have fj : wr.frozen? ⟨gs, j, none⟩ = false := unfrozen_of_block S3.out _
       have jl : (j : Int) < (ns : Int) := by omega
       have j0 : (0 : Int) ≤ (j : Int) := by omega
       obtain ⟨dv, hdv⟩ : ∃ d, d = DOT par x pj i := ⟨_, rfl⟩
       have HDV : Hid _ := hdv
       rw [← hdv]
       clear hdv htv
       go_wp2
       go_roundw
       case rel =>
        refine ⟨j + 1, by omega, by go_num, T.setIfInBounds j (.int .u32 dv), ?_, fun k hk => ?_, ?_, heap_set _ gs j _ T 29 _ S3.out, U3.out.trans (But.set _ gs j _ (Or.inr rfl))⟩
        · show _ = _; rw [Array.size_setIfInBounds]; exact TS.out
        · by_cases e : k = j
          · subst e
            rw [Array.getElem?_setIfInBounds_self_of_lt (by rw [TS.out]; exact hlt), HDV.out, PJ.out]
          · rw [Array.getElem?_setIfInBounds_ne (fun h => e h.symm)]; exact TI.out k (by omega)
        · show _ = _; rw [heap_set_ne _ gs j B _ n1]; exact B3.out
       case measure => simp [intOf]; omega
  · have hjn : j = ns := by omega
    have R : Hid (T = u32s (SUMS par x f a ns)) := u32s_of T _ (by rw [SUMS_len]; exact TS.out) fun i hi => by
     rw [SUMS_len] at hi
     rw [SUMS_at _ _ _ _ _ _ hi]; exact TI.out i (by omega)
    go_wp2
    go_end0
    exact ⟨rfl, HB.out, R.out ▸ HS.out, HU.out⟩
end Go.Proofs.YtoihkljlekknkaaGreat
/-
  The slopes of a layer's parameters, put in their places, of the program. Conditions: the patterns are 0 to 2^32 - 1; the numbers are small; the blocks are apart.
-/
namespace Go.Proofs.YtoihkljlekknkaaGreat
open Go.RowKit
open Go.Joins (cell_of_block unfrozen_of_block)
set_option linter.unusedVariables false
set_option linter.unusedSimpArgs false
theorem u32s_set (l : List Int) (i : Nat) (x : Int) : (u32s l).setIfInBounds i (.int .u32 x) = u32s (l.set i x) := by
 unfold u32s; rw [List.setIfInBounds_toArray, List.map_set]
/-- a unit's slopes, put in their places: the bias, then so many weights -/
def SROW (e : Int) (x : List Int) (p : Nat) (L : List Int) : Nat → List Int
 | 0 => L.set p e
 | i + 1 => (SROW e x p L i).set (p + 1 + i) (MUL e (x.getD i 0))
/-- so many units' slopes, put in their places -/
def SLO (E x : List Int) (f a : Nat) (L : List Int) : Nat → List Int
 | 0 => L
 | j + 1 => SROW (E.getD j 0) x (f + j * (a + 1)) (SLO E x f a L j) a
theorem SROW_len (e : Int) (x : List Int) (p : Nat) (L : List Int) (i : Nat) : (SROW e x p L i).length = L.length := by
 induction i with
 | zero => exact List.length_set
 | succ i ih => exact List.length_set.trans ih
theorem SLO_len (E x : List Int) (f a : Nat) (L : List Int) (j : Nat) : (SLO E x f a L j).length = L.length := by
 induction j with
 | zero => rfl
 | succ j ih => exact (SROW_len _ _ _ _ _).trans ih
theorem pats_set {L : List Int} (h : pats L) (i : Nat) (v : Int) (hv : 0 ≤ v ∧ v < 4294967296) : pats (L.set i v) := fun y hy => by
 rcases List.mem_or_eq_of_mem_set hy with h1 | h1
 · exact h y h1
 · rw [h1]; exact hv
theorem SROW_pats {e : Int} (he : 0 ≤ e ∧ e < 4294967296) (x : List Int) (p : Nat) {L : List Int} (h : pats L) (i : Nat) : pats (SROW e x p L i) := by
 induction i with
 | zero => exact pats_set h _ _ he
 | succ i ih => exact pats_set ih _ _ (MUL_bd' _ _)
theorem SLO_pats {E : List Int} (hE : pats E) (x : List Int) (f a : Nat) {L : List Int} (h : pats L) (j : Nat) : pats (SLO E x f a L j) := by
 induction j with
 | zero => exact h
 | succ j ih => exact SROW_pats (pats_at hE j) x _ ih a
set_option maxHeartbeats 4000000 in
set_option maxRecDepth 100000 in
theorem lslope_any (B o gl ge gg og cl ce cg ns f a : Nat) (C : Array Value) (t : TypeId) (L E x : List Int) (w : World)
 (hB : w.heap[B]? = some (.cells C t (0, 0))) (c0 : C[o]? = some (.int .i64 (a : Int))) (c2 : C[o + 2]? = some (.int .i64 (f : Int))) (c3 : C[o + 3]? = some (.slice (some ⟨gg, og, none⟩) a cg))
 (hl : w.heap[gl]? = some (.cells (u32s L) 29 (0, 0)))
 (gel : ge < w.heap.size) (hE : ∀ i, i < ns → w.cell? ⟨ge, i, none⟩ = some (.int .u32 (E.getD i 0)))
 (ggl : gg < w.heap.size) (hx : ∀ i, i < a → w.cell? ⟨gg, og + i, none⟩ = some (.int .u32 (x.getD i 0)))
 (n1 : B ≠ gl) (n2 : ge ≠ gl) (n3 : gg ≠ gl) (pE : pats E) (px : pats x)
 (a4 : a ≤ 4) (ns4 : ns ≤ 4) (f4 : f ≤ 100) (hnp : f + ns * (a + 1) ≤ L.length) (np4 : L.length ≤ 1000) (og4 : og ≤ 1000) :
 Calls Tryz.prog 88 #[.pointer (some ⟨B, o, none⟩), .slice (some ⟨gl, 0, none⟩) L.length cl, .slice (some ⟨ge, 0, none⟩) ns ce] w fun e w' =>
  e = .returned (.tuple #[]) ∧ w'.heap[gl]? = some (.cells (u32s (SLO E x f a L ns)) 29 (0, 0)) ∧ But (fun k => k = gl) w w' := by
 have BL := lt_of_heap hB
 have BB : Hid (∀ {V}, But (fun k => k = gl) w V → V.heap[B]? = some (.cells C t (0, 0))) := fun {V} h => (h.block B BL n1).trans hB
 have EC : Hid (∀ {V}, But (fun k => k = gl) w V → ∀ i, i < ns → V.cell? ⟨ge, i, none⟩ = some (.int .u32 (E.getD i 0))) := fun {V} h i hi => (h.cell gel n2 i).trans (hE i hi)
 have XC : Hid (∀ {V}, But (fun k => k = gl) w V → ∀ i, i < a → V.cell? ⟨gg, og + i, none⟩ = some (.int .u32 (x.getD i 0))) := fun {V} h i hi => (h.cell ggl n3 (og + i)).trans (hx i hi)
 have HL0 : Hid _ := hl
 have HC0 : Hid _ := c0
 have HC2 : Hid _ := c2
 have HC3 : Hid _ := c3
 have HPE : Hid _ := pE
 have HPX : Hid _ := px
 obtain ⟨np, hn⟩ : ∃ n, n = L.length := ⟨_, rfl⟩
 rw [← hn] at hnp np4 ⊢
 have HN : Hid _ := hn
 clear hB c0 c2 c3 hl hE hx pE px BL hn
 go_enter Tryz.func88, Tryz.ntmps88
 go_wp2
 go_loopw [12] (fun jv wr => ∃ j : Nat, j ≤ ns ∧ jv = .int .i64 j ∧ Hid (wr.heap[gl]? = some (.cells (u32s (SLO E x f a L j)) 29 (0, 0))) ∧ Hid (But (fun k => k = gl) w wr)) (fun jv _ => ns - (intOf jv).toNat)
 case atStart => exact ⟨0, by omega, rfl, HL0.out, But.refl _ _⟩
 case round =>
  clear HL0
  obtain ⟨j, hj, rfl, HL, HU⟩ := hrel
  by_cases hlt : j < ns
  · have hmul : (j + 1) * (a + 1) ≤ ns * (a + 1) := Nat.mul_le_mul_right _ hlt
    obtain ⟨pj, hpj⟩ : ∃ p, p = f + j * (a + 1) := ⟨_, rfl⟩
    have hpl : pj + a + 1 ≤ np := by rw [hpj]; rw [Nat.add_mul] at hmul; omega
    have ep : (f : Int) + (j : Int) * (1 + (a : Int)) = (pj : Int) := by rw [hpj]; simp [Int.add_comm]
    have BI : Hid (Calls Tryz.prog 84 #[.pointer (some ⟨B, o, none⟩), .int .i64 (j : Int)] wr fun e w' => e = .returned (.int .i64 (pj : Int)) ∧ Below wr.heap.size wr w') := by
     have := bias_any B o (f : Int) (a : Int) (j : Int) wr (by omega) (by omega) (by omega) ((cell_of_block (BB.out HU.out) _).trans HC0.out) ((cell_of_block (BB.out HU.out) _).trans HC2.out)
     rw [ep] at this; exact this
    have WT : Hid (∀ V : World, But (fun k => k = gl) w V → ∀ i : Nat, i < a → Calls Tryz.prog 116 #[.pointer (some ⟨B, o, none⟩), .int .i64 (j : Int), .int .i64 (i : Int)] V fun e w' => e = .returned (.int .i64 ((pj + 1 + i : Nat) : Int)) ∧ Below V.heap.size V w') := fun V hV i hi => by
     have := pweight_any B o (f : Int) (a : Int) (j : Int) (i : Int) V (by omega) (by omega) (by omega) (by omega) ((cell_of_block (BB.out hV) _).trans HC0.out) ((cell_of_block (BB.out hV) _).trans HC2.out)
     rw [ep, show (pj : Int) + 1 + (i : Int) = ((pj + 1 + i : Nat) : Int) by omega] at this; exact this
    have ec : wr.cell? ⟨ge, j, none⟩ = some (.int .u32 (E.getD j 0)) := EC.out HU.out j hlt
    have pl : (pj : Int) < (np : Int) := by omega
    have p0 : (0 : Int) ≤ (pj : Int) := by omega
    have jl : (j : Int) < (ns : Int) := by omega
    have j0 : (0 : Int) ≤ (j : Int) := by omega
    have eb := pats_at HPE.out j
    have LN : Hid ((SLO E x f a L j).length = np) := (SLO_len E x f a L j).trans HN.out.symm
    have NX : Hid (SROW (E.getD j 0) x pj (SLO E x f a L j) a = SLO E x f a L (j + 1)) := by show _ = _; rw [hpj]; rfl
    obtain ⟨ev, he⟩ : ∃ e, e = E.getD j 0 := ⟨_, rfl⟩
    obtain ⟨K, hK⟩ : ∃ K, K = SLO E x f a L j := ⟨_, rfl⟩
    rw [← he] at ec eb NX
    rw [← hK] at LN NX HL
    clear he hK hmul hpj ep
    go_wp2_with (first
     | (go_at_call 84; refine BI.out.mono ?_; rintro e w2 ⟨rfl, hb⟩
        have L2 : Hid (w2.heap[gl]? = some (.cells (u32s K) 29 (0, 0))) := (hb.block _ (lt_of_heap HL.out)).trans HL.out
        have U2 : Hid (But (fun k => k = gl) w w2) := HU.out.trans (But.below hb)
        have a2 : w2.cell? ⟨gl, pj, none⟩ = some (.int .u32 (K.getD pj 0)) := (cell_of_block L2.out _).trans (u32s_at K pj (by rw [LN.out]; omega))
        have f2 : w2.frozen? ⟨gl, pj, none⟩ = false := unfrozen_of_block L2.out _
        have L3 : Hid ((w2.setCell ⟨gl, pj, none⟩ (.int .u32 ev)).heap[gl]? = some (.cells (u32s (SROW ev x pj K 0)) 29 (0, 0))) := by show _ = _; rw [heap_set w2 gl pj _ _ 29 _ L2.out, u32s_set]; rfl
        have U3 : Hid (But (fun k => k = gl) w (w2.setCell ⟨gl, pj, none⟩ (.int .u32 ev))) := U2.out.trans (But.set w2 gl pj _ rfl)
        have g3 : (w2.setCell ⟨gl, pj, none⟩ (.int .u32 ev)).cell? ⟨B, o + 3, none⟩ = some (.slice (some ⟨gg, og, none⟩) a cg) := (cell_of_block (BB.out U3.out) _).trans HC3.out
        clear hb))
    clear a2 f2 g3 L2 U2 BI HL HU ec
    go_loopw [28] (fun iv wz => ∃ i : Nat, i ≤ a ∧ iv = .int .i64 i ∧ Hid (wz.heap[gl]? = some (.cells (u32s (SROW ev x pj K i)) 29 (0, 0))) ∧ Hid (But (fun k => k = gl) w wz)) (fun iv _ => a - (intOf iv).toNat)
    case atStart => exact ⟨0, by omega, rfl, L3.out, U3.out⟩
    case round =>
     clear L3 U3
     obtain ⟨i, hi, rfl, LZ, UZ⟩ := hrel
     by_cases hil : i < a
     · obtain ⟨pi, hpi⟩ : ∃ p, p = pj + 1 + i := ⟨_, rfl⟩
       have WI : Hid (Calls Tryz.prog 116 #[.pointer (some ⟨B, o, none⟩), .int .i64 (j : Int), .int .i64 (i : Int)] wr fun e w' => e = .returned (.int .i64 (pi : Int)) ∧ Below wr.heap.size wr w') := by rw [hpi]; exact WT.out wr UZ.out i hil
       have xir : wr.cell? ⟨gg, og + i, none⟩ = some (.int .u32 (x.getD i 0)) := XC.out UZ.out i hil
       have bB := pats_at HPX.out i
       have MN : Hid ((SROW ev x pj K i).length = np) := (SROW_len ev x pj K i).trans LN.out
       have NX2 : Hid ((SROW ev x pj K i).set pi (MUL ev (x.getD i 0)) = SROW ev x pj K (i + 1)) := by show _ = _; rw [hpi]; rfl
       obtain ⟨Bx, hB⟩ : ∃ a, a = x.getD i 0 := ⟨_, rfl⟩
       obtain ⟨M, hM⟩ : ∃ a, a = SROW ev x pj K i := ⟨_, rfl⟩
       rw [← hB] at xir bB NX2
       rw [← hM] at NX2 MN LZ
       have MU0 : ∀ V, Calls Tryz.prog 61 #[.int .u32 ev, .int .u32 Bx] V fun e w' => e = .returned (.int .u32 (MUL ev Bx)) ∧ w' = V := fun V => mul_any ev Bx V eb.1 eb.2 bB.1 bB.2
       obtain ⟨Mv, hV⟩ : ∃ a, a = MUL ev Bx := ⟨_, rfl⟩
       rw [← hV] at NX2 MU0
       have MU : Hid _ := MU0
       have il : (i : Int) < (a : Int) := by omega
       have i0 : (0 : Int) ≤ (i : Int) := by omega
       have pil : (pi : Int) < (np : Int) := by omega
       have pi0 : (0 : Int) ≤ (pi : Int) := by omega
       have pin : Hid (pi < np) := by show _ < _; omega
       clear hB hM hV hpi MU0
       go_wp2_with (first
        | (go_at_call 116; refine WI.out.mono ?_; rintro e w5 ⟨rfl, hb⟩
           have L5 : Hid (w5.heap[gl]? = some (.cells (u32s M) 29 (0, 0))) := (hb.block _ (lt_of_heap LZ.out)).trans LZ.out
           have U5 : Hid (But (fun k => k = gl) w w5) := UZ.out.trans (But.below hb)
           have a5 : w5.cell? ⟨gl, pi, none⟩ = some (.int .u32 (M.getD pi 0)) := (cell_of_block L5.out _).trans (u32s_at M pi (by rw [MN.out]; exact pin.out))
           have f5 : w5.frozen? ⟨gl, pi, none⟩ = false := unfrozen_of_block L5.out _
           clear hb)
        | (go_at_call 61; refine (MU.out _).mono ?_; rintro e w6 ⟨rfl, hw'⟩; subst w6))
       go_roundw
       case rel =>
        refine ⟨i + 1, by omega, by go_num, ?_, U5.out.trans (But.set _ gl pi _ rfl)⟩
        show _ = _
        rw [heap_set _ gl pi _ _ 29 _ L5.out, u32s_set, NX2.out]
       case measure => simp [intOf]; omega
     · have hie : a = i := by omega
       have LZ2 : Hid (wr.heap[gl]? = some (.cells (u32s (SLO E x f a L (j + 1))) 29 (0, 0))) := by show _ = _; rw [← NX.out, LZ.out, hie]
       clear hie
       go_wp2
       go_roundw
       case rel => exact ⟨j + 1, by omega, by go_num, LZ2.out, UZ.out⟩
       case measure => simp [intOf]; omega
  · have hjn : ns = j := by omega
    have R : Hid (wr.heap[gl]? = some (.cells (u32s (SLO E x f a L ns)) 29 (0, 0))) := by show _ = _; rw [hjn]; exact HL.out
    clear hjn
    go_wp2
    go_end0
    exact ⟨rfl, R.out, HU.out⟩
end Go.Proofs.YtoihkljlekknkaaGreat
