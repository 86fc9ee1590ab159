/-
  Where the document's parameters lie. Conditions: the widths are 0 to 4; layers up to 3.
-/
import Derived.Test.YtoihkljlekknkaaGreatCk1
import Derived.Deep.QuietTactic
import Derived.BigQuiet
import Derived.Deep.RegionHeld3
import Derived.Test.YtoihkljlekknkaaGreatRefPoly
import Derived.Test.YtoihkljlekknkaaGreatPk1
import Derived.Test.YtoihkljlekknkaaGreatInts
import Derived.Deep.MidRow
namespace Go.Proofs.YtoihkljlekknkaaGreat
open Go.RowKit
open Go.Joins (block_setCell cell_of_block unfrozen_of_block)
set_option linter.unusedVariables false
set_option linter.unusedSimpArgs false
/-- the widths are some that may be -/
def WB (c : Cf) : Prop := ∀ i, i < 4 → 0 ≤ wd c i ∧ wd c i ≤ 4
/-- where layer k's parameters begin -/
def stN (c : Cf) : Nat → Int
 | 0 => 0
 | k + 1 => if k = 0 then 0 else stN c k + wd c k * (wd c (k - 1) + 1)
theorem stN_one (c : Cf) : stN c 1 = 0 := rfl
theorem stN_succ (c : Cf) (k : Nat) (h : 1 ≤ k) : stN c (k + 1) = stN c k + wd c k * (wd c (k - 1) + 1) := by
 show (if k = 0 then 0 else _) = _
 rw [if_neg (by omega)]
theorem mulb (x y : Int) (hx : 0 ≤ x ∧ x ≤ 4) (hy : 0 ≤ y ∧ y ≤ 4) : 0 ≤ x * (y + 1) ∧ x * (y + 1) ≤ 20 := by
 rcases (show y = 0 ∨ y = 1 ∨ y = 2 ∨ y = 3 ∨ y = 4 by omega) with rfl | rfl | rfl | rfl | rfl <;> omega
theorem stN_bd (c : Cf) (hw : WB c) (k : Nat) (hk : k ≤ 4) : 0 ≤ stN c k ∧ stN c k ≤ 60 := by
 have h0 : 0 ≤ stN c 0 ∧ stN c 0 ≤ 0 := ⟨by show (0 : Int) ≤ 0; omega, by show (0 : Int) ≤ 0; omega⟩
 have h1 : 0 ≤ stN c 1 ∧ stN c 1 ≤ 0 := h0
 have h2 : stN c 2 = stN c 1 + wd c 1 * (wd c 0 + 1) := stN_succ c 1 (by omega)
 have h3 : stN c 3 = stN c 2 + wd c 2 * (wd c 1 + 1) := stN_succ c 2 (by omega)
 have h4 : stN c 4 = stN c 3 + wd c 3 * (wd c 2 + 1) := stN_succ c 3 (by omega)
 have m1 := mulb (wd c 1) (wd c 0) (hw 1 (by omega)) (hw 0 (by omega))
 have m2 := mulb (wd c 2) (wd c 1) (hw 2 (by omega)) (hw 1 (by omega))
 have m3 := mulb (wd c 3) (wd c 2) (hw 3 (by omega)) (hw 2 (by omega))
 rcases (show k = 0 ∨ k = 1 ∨ k = 2 ∨ k = 3 ∨ k = 4 by omega) with rfl | rfl | rfl | rfl | rfl <;> omega
theorem wrap_id (x : Int) (h0 : -9223372036854775808 ≤ x) (h1 : x ≤ 9223372036854775807) : IntKind.i64.wrap x = x := by rw [IntKind.wrap_i64]; omega
set_option maxHeartbeats 2000000 in
set_option maxRecDepth 100000 in
theorem start_any (c : Cf) (hw : WB c) (k : Nat) (hk : k ≤ 4) (w : World) :
 Calls Tryz.prog 69 #[.agg (rcs c), .int .i64 (k : Int)] w fun e w' => e = .returned (.int .i64 (stN c k)) ∧ Below w.heap.size w w' := by
 obtain ⟨X, hX⟩ : ∃ X, X = rcs c := ⟨_, rfl⟩
 rw [← hX]
 obtain ⟨W, hW, b0, bel, hws⟩ := one_block w X 24
 have cw : Hid (∀ i, i < 4 → W.cell? ⟨w.heap.size, 1 + i, none⟩ = some (.int .i64 (wd c i))) := fun i hi => (cell_of_block b0 (1 + i)).trans (by rw [hX]; exact rcs_wide c i hi)
 have BE : Hid (Below w.heap.size w W) := bel
 have WS : Hid (w.heap.size < W.heap.size) := by show _ < _; omega
 have HW : Hid _ := hW
 have HWB : Hid _ := hw
 clear b0 bel hW hX hws hw
 go_enter Tryz.func69, Tryz.ntmps69
 go_upto_region 1 with fail
 rw [HW.out]
 go_wp2
 go_loopw [5, 6] (fun nv iv wr => ∃ i : Nat, 1 ≤ i ∧ (i ≤ k ∨ i = 1) ∧ iv = .int .i64 i ∧ nv = .int .i64 (stN c i) ∧ Hid (Below W.heap.size W wr)) (fun _ iv _ => k - (intOf iv).toNat)
 case atStart => exact ⟨1, by omega, Or.inr rfl, rfl, rfl, Below.refl _ _⟩
 case round =>
  obtain ⟨i, hi1, hik, rfl, rfl, BW⟩ := hrel
  by_cases hlt : i < k
  · have x0 := HWB.out i (by omega)
    have y0 := HWB.out (i - 1) (by omega)
    have z0 := stN_bd c HWB.out i (by omega)
    have SU : Hid (stN c (i + 1) = stN c i + wd c i * (wd c (i - 1) + 1)) := stN_succ c i hi1
    have d1 : wr.cell? ⟨w.heap.size, 1 + i, none⟩ = some (.int .i64 (wd c i)) := (BW.out.cell (p := ⟨w.heap.size, 1 + i, none⟩) WS.out).trans (cw.out i (by omega))
    have d2 : wr.cell? ⟨w.heap.size, 1 + (i - 1), none⟩ = some (.int .i64 (wd c (i - 1))) := (BW.out.cell (p := ⟨w.heap.size, 1 + (i - 1), none⟩) WS.out).trans (cw.out (i - 1) (by omega))
    obtain ⟨x, hx⟩ : ∃ x, x = wd c i := ⟨_, rfl⟩
    obtain ⟨y, hy⟩ : ∃ y, y = wd c (i - 1) := ⟨_, rfl⟩
    obtain ⟨z, hz⟩ : ∃ z, z = stN c i := ⟨_, rfl⟩
    rw [← hx] at x0 d1 SU
    rw [← hy] at y0 d2 SU
    rw [← hz] at z0 SU ⊢
    clear hx hy hz
    have mb := mulb x y x0 y0
    obtain ⟨u, hu⟩ : ∃ u, x * (y + 1) = u := ⟨_, rfl⟩
    rw [hu] at mb SU
    have f1 : IntKind.i64.wrap (y + 1) = y + 1 := wrap_id _ (by omega) (by omega)
    have f2 : IntKind.i64.wrap (x * (y + 1)) = u := by rw [hu]; exact wrap_id _ (by omega) (by omega)
    have f3 : IntKind.i64.wrap (z + u) = z + u := wrap_id _ (by omega) (by omega)
    clear hu
    rcases (show i = 1 ∨ i = 2 ∨ i = 3 by omega) with rfl | rfl | rfl
    all_goals
     simp only [Nat.reduceSub, Nat.reduceAdd] at d1 d2
     go_upto_region 5 with fail
     go_quiet (fail)
     go_wp2
     go_roundw
     case rel => exact ⟨_, by omega, Or.inl hlt, by go_num, congrArg _ SU.out.symm, ⟨BW.out.os, BW.out.tape, BW.out.output, BW.out.size, BW.out.block⟩⟩
     case measure => simp [intOf]; omega
  · go_wp2
    go_ret
    refine ⟨ret_int ?_, BE.out.trans (BW.out.mono BE.out.size)⟩
    rcases hik with h | h
    · rw [show i = k by omega]
    · rw [h]
      rcases (show k = 0 ∨ k = 1 by omega) with e | e
      · rw [e]; rfl
      · rw [e]
/-- a configuration by value is handed on -/
theorem infoC (c : Cf) : (Tryz.prog.info? 24).map (·.size) = some (rcs c).size := by show _ = some 20; kernel_rfl
set_option maxHeartbeats 2000000 in
set_option maxRecDepth 100000 in
theorem rsize_any (c : Cf) (hw : WB c) (hL : 0 ≤ c.L ∧ c.L ≤ 3) (w : World) :
 Calls Tryz.prog 36 #[.agg (rcs c)] w fun e w' => e = .returned (.int .i64 (stN c (c.L.toNat + 1))) ∧ Below w.heap.size w w' := by
 obtain ⟨l, hl⟩ : ∃ l : Nat, c.L = (l : Int) := ⟨c.L.toNat, by omega⟩
 have ST : Hid (∀ W, Calls Tryz.prog 69 #[.agg (rcs c), .int .i64 ((l : Int) + 1)] W fun e w' => e = .returned (.int .i64 (stN c (l + 1))) ∧ Below W.heap.size W w') := fun W => start_any c hw (l + 1) (by omega) W
 have IC := infoC c
 have e0 : c.L.toNat = l := by omega
 rw [e0]
 obtain ⟨X, hX⟩ : ∃ X, X = rcs c := ⟨_, rfl⟩
 rw [← hX] at ST IC ⊢
 obtain ⟨W, hW, b0, bel, hws⟩ := one_block w X 24
 have c0 : W.cell? ⟨w.heap.size, 0, none⟩ = some (.int .i64 (l : Int)) := (cell_of_block b0 0).trans (by rw [hX, ← hl]; rfl)
 have B0 : Hid _ := b0
 have BE : Hid (Below w.heap.size w W) := bel
 have HW : Hid _ := hW
 have HI : Hid _ := IC
 have lb : (l : Int) ≤ 3 := by omega
 clear b0 bel hW hX hws IC e0 hl hL hw
 go_enter Tryz.func36, Tryz.ntmps36
 go_upto_region 1 with fail
 rw [HW.out]
 go_wp2_with (first
  | (refine wpList_load_row rfl 24 _ rfl w.heap.size rfl 24 X (0, 0) _ B0.out Tryz.underlying24 rfl HI.out ?_)
  | (go_at_call 69; refine (ST.out _).mono ?_; rintro e w1 ⟨rfl, hb⟩; have HB : Hid _ := hb; clear hb))
 go_ret
 exact ⟨rfl, BE.out.trans (HB.out.mono BE.out.size)⟩
end Go.Proofs.YtoihkljlekknkaaGreat
/-
  A power and a blend, of the program. Conditions: the patterns are 0 to 2^32 - 1; small numbers.
-/
namespace Go.Proofs.YtoihkljlekknkaaGreat
open Go.RowKit
set_option linter.unusedVariables false
set_option linter.unusedSimpArgs false
set_option maxHeartbeats 1000000 in
theorem power_any (a : Int) (n : Nat) (w : World) (h0 : 0 ≤ a) (h1 : a < 4294967296) (hn : n < 4611686018427387904) :
 Calls Tryz.prog 65 #[.int .u32 a, .int .i64 (n : Int)] w fun e w' => e = .returned (.int .u32 (POWN a n)) ∧ w' = w := by
 go_enter Tryz.func65, Tryz.ntmps65
 go_wp2
 go_loop [5, 7] (fun pv iv => ∃ i : Nat, i ≤ n ∧ iv = .int .i64 i ∧ pv = .int .u32 (POWN a i)) (fun _ iv => n - (intOf iv).toNat)
 case atStart => exact ⟨0, by omega, rfl, rfl⟩
 case round =>
  obtain ⟨i, hi, rfl, rfl⟩ := hrel
  by_cases hlt : i < n
  · have bd := POWN_bd a i
    have SU : Hid (POWN a (i + 1) = MUL (POWN a i) a) := rfl
    obtain ⟨p, hp⟩ : ∃ p, p = POWN a i := ⟨_, rfl⟩
    rw [← hp] at bd SU ⊢
    clear hp
    go_wp2_with (first | (go_at_call 61; refine (mul_any _ _ _ bd.1 bd.2 h0 h1).mono ?_; rintro e w' ⟨rfl, hw'⟩; subst w'))
    go_round
    case rel => exact ⟨i + 1, by omega, by go_num, congrArg _ SU.out.symm⟩
    case measure => simp [intOf]; omega
  · have hie : n = i := by omega
    subst hie
    go_wp2
    go_ret
    exact ⟨rfl, rfl⟩
/-- so much of what was, and the rest of what is new -/
def BLD (m s g : Int) : Int := ADD (MUL m s) (MUL (SUB 1065353216 m) g)
theorem BLD_bd (m s g : Int) : 0 ≤ BLD m s g ∧ BLD m s g < 4294967296 := by
 have a := MUL_bd' m s
 have b := MUL_bd' (SUB 1065353216 m) g
 exact ADD_bd _ _ a.1 a.2 b.1 b.2
set_option maxHeartbeats 1000000 in
theorem blend_any (m s g : Int) (w : World) (hm : 0 ≤ m ∧ m < 4294967296) (hs : 0 ≤ s ∧ s < 4294967296) (hg : 0 ≤ g ∧ g < 4294967296) :
 Calls Tryz.prog 66 #[.int .u32 m, .int .u32 s, .int .u32 g] w fun e w' => e = .returned (.int .u32 (BLD m s g)) ∧ w' = w := by
 have b1 := MUL_bd' m s
 have b2 := SUB_bd 1065353216 m (by decide) (by decide)
 have R : Hid (BLD m s g = ADD (MUL m s) (MUL (SUB 1065353216 m) g)) := rfl
 have X1 : Hid (∀ V, Calls Tryz.prog 61 #[.int .u32 m, .int .u32 s] V fun e w' => e = .returned (.int .u32 (MUL m s)) ∧ w' = V) := fun V => mul_any m s V hm.1 hm.2 hs.1 hs.2
 have X2 : Hid (∀ V, Calls Tryz.prog 64 #[.int .u32 1065353216, .int .u32 m] V fun e w' => e = .returned (.int .u32 (SUB 1065353216 m)) ∧ w' = V) := fun V => sub_any 1065353216 m V (by decide) (by decide) hm.1 hm.2
 obtain ⟨x, hx⟩ : ∃ x, x = MUL m s := ⟨_, rfl⟩
 obtain ⟨d, hd⟩ : ∃ x, x = SUB 1065353216 m := ⟨_, rfl⟩
 rw [← hx] at b1 R X1
 rw [← hd] at b2 R X2
 have b3 := MUL_bd' d g
 have X3 : Hid (∀ V, Calls Tryz.prog 61 #[.int .u32 d, .int .u32 g] V fun e w' => e = .returned (.int .u32 (MUL d g)) ∧ w' = V) := fun V => mul_any d g V b2.1 b2.2 hg.1 hg.2
 obtain ⟨y, hy⟩ : ∃ x, x = MUL d g := ⟨_, rfl⟩
 rw [← hy] at b3 R X3
 have X4 : Hid (∀ V, Calls Tryz.prog 56 #[.int .u32 x, .int .u32 y] V fun e w' => e = .returned (.int .u32 (ADD x y)) ∧ w' = V) := fun V => add_any x y V b1.1 b1.2 b3.1 b3.2
 clear hx hd hy
 go_enter Tryz.func66, Tryz.ntmps66
 go_wp2_with (first
  | (go_at_call_of 61 (Value.int IntKind.u32 d); refine (X3.out _).mono ?_; rintro e w' ⟨rfl, hw'⟩; subst w')
  | (go_at_call_of 61 (Value.int IntKind.u32 s); refine (X1.out _).mono ?_; rintro e w' ⟨rfl, hw'⟩; subst w')
  | (go_at_call 64; refine (X2.out _).mono ?_; rintro e w' ⟨rfl, hw'⟩; subst w')
  | (go_at_call 56; refine (X4.out _).mono ?_; rintro e w' ⟨rfl, hw'⟩; subst w'))
 go_ret
 exact ⟨congrArg Ending.returned (congrArg (Value.int IntKind.u32) R.out.symm), rfl⟩
end Go.Proofs.YtoihkljlekknkaaGreat
/-
  The first parameters, of the program. Conditions: the seed is 0 to 2^32 - 1; a small number.
-/
namespace Go.Proofs.YtoihkljlekknkaaGreat
open Go.RowKit
set_option linter.unusedVariables false
set_option linter.unusedSimpArgs false
/-- a parameter at first -/
def PAR0 (seed : Int) (i : Nat) : Int := MUL (FROMI (MIX ((seed + 2654435769 * ((i : Int) + 1)) % 4294967296) % 255 - 127)) 998244352
theorem PAR0_bd (seed : Int) (i : Nat) : 0 ≤ PAR0 seed i ∧ PAR0 seed i < 4294967296 := MUL_bd' _ _
set_option maxHeartbeats 1000000 in
theorem firstParameter_any (seed : Int) (i : Nat) (w : World) (h0 : 0 ≤ seed) (h1 : seed < 4294967296) (hi : i < 4000000000) :
 Calls Tryz.prog 54 #[.int .u32 seed, .int .i64 (i : Int)] w fun e w' => e = .returned (.int .u32 (PAR0 seed i)) ∧ w' = w := by
 obtain ⟨x, hx⟩ : ∃ x, x = (seed + 2654435769 * ((i : Int) + 1)) % 4294967296 := ⟨_, rfl⟩
 have xb : 0 ≤ x ∧ x < 4294967296 := by omega
 have mb := MIX_bd x xb.1 xb.2
 have R : Hid (PAR0 seed i = MUL (FROMI (MIX x % 255 - 127)) 998244352) := by show PAR0 seed i = _; rw [hx]; rfl
 have X1 : Hid (∀ V, Calls Tryz.prog 85 #[.int .u32 x] V fun e w' => e = .returned (.int .u32 (MIX x)) ∧ w' = V) := fun V => mix_any x V xb.1 xb.2
 obtain ⟨m, hm⟩ : ∃ m, m = MIX x := ⟨_, rfl⟩
 rw [← hm] at mb R X1
 clear hm
 have X2 : Hid (∀ V, Calls Tryz.prog 59 #[.int .i64 (m % 255 - 127)] V fun e w' => e = .returned (.int .u32 (FROMI (m % 255 - 127))) ∧ w' = V) := fun V => fromInt_any _ V (by omega) (by omega)
 have fb := FROMI_bd' (m % 255 - 127)
 obtain ⟨f, hf⟩ : ∃ f, f = FROMI (m % 255 - 127) := ⟨_, rfl⟩
 rw [← hf] at fb R X2
 clear hf
 have X3 : Hid (∀ V, Calls Tryz.prog 61 #[.int .u32 f, .int .u32 998244352] V fun e w' => e = .returned (.int .u32 (MUL f 998244352)) ∧ w' = V) := fun V => mul_any _ _ V fb.1 fb.2 (by decide) (by decide)
 go_enter Tryz.func54, Tryz.ntmps54
 go_wp2_with (first
  | (go_at_call 85; rw [← hx]; refine (X1.out _).mono ?_; rintro e w' ⟨rfl, hw'⟩; subst w')
  | (go_at_call 59; refine (X2.out _).mono ?_; rintro e w' ⟨rfl, hw'⟩; subst w')
  | (go_at_call 61; refine (X3.out _).mono ?_; rintro e w' ⟨rfl, hw'⟩; subst w'))
 go_ret
 exact ⟨congrArg Ending.returned (congrArg (Value.int IntKind.u32) R.out.symm), rfl⟩
end Go.Proofs.YtoihkljlekknkaaGreat
/-
  A layer's places, a hidden unit's answer and its error, of the program. Conditions: the patterns are 0 to 2^32 - 1; the numbers are small.
-/
namespace Go.Proofs.YtoihkljlekknkaaGreat
open Go.RowKit
set_option linter.unusedVariables false
set_option linter.unusedSimpArgs false
/-- v where s is above 0 -/
def ABV (s v : Int) : Int := if LESS 0 s = true then v else 0
set_option maxHeartbeats 1000000 in
theorem ifAbove_any (s v : Int) (w : World) (h0 : 0 ≤ s) (h1 : s < 4294967296) :
 Calls Tryz.prog 127 #[.int .u32 s, .int .u32 v] w fun e w' => e = .returned (.int .u32 (ABV s v)) ∧ w' = w := by
 cases hl : LESS 0 s
 · have R : Hid (ABV s v = 0) := by show _ = _; unfold ABV; rw [if_neg (by rw [hl]; simp)]
   go_enter Tryz.func127, Tryz.ntmps127
   go_wp2_with (first | (go_at_call 60; refine (less_any 0 s _ (by decide) (by decide) h0 h1).mono ?_; rintro e w1 ⟨rfl, hw'⟩; subst w1; rw [hl]))
   go_ret
   exact ⟨ret_int R.out.symm, rfl⟩
 · have R : Hid (ABV s v = v) := by show _ = _; unfold ABV; rw [if_pos hl]
   go_enter Tryz.func127, Tryz.ntmps127
   go_wp2_with (first | (go_at_call 60; refine (less_any 0 s _ (by decide) (by decide) h0 h1).mono ?_; rintro e w1 ⟨rfl, hw'⟩; subst w1; rw [hl]))
   go_ret
   exact ⟨ret_int R.out.symm, rfl⟩
set_option maxHeartbeats 1000000 in
theorem curve_any (B o : Nat) (bend s : Int) (w : World) (h0 : 0 ≤ s) (h1 : s < 4294967296) (hc : w.cell? ⟨B, o + 5, none⟩ = some (.int .i64 bend)) :
 Calls Tryz.prog 125 #[.pointer (some ⟨B, o, none⟩), .int .u32 s] w fun e w' => e = .returned (.int .u32 (BNT bend s)) ∧ Below w.heap.size w w' := by
 by_cases b1 : bend = 1
 · have R : Hid (BNT bend s = TANH s) := by show _ = _; unfold BNT; rw [if_pos b1]
   subst b1
   go_enter Tryz.func125, Tryz.ntmps125
   go_wp2_with (first | (go_at_call 131; refine (tanh_any _ _ h0 h1).mono ?_; rintro e w1 ⟨rfl, hb⟩; have HB : Hid _ := hb; clear hb))
   go_ret
   exact ⟨ret_int R.out.symm, HB.out⟩
 · by_cases b2 : bend = 2
   · have R : Hid (BNT bend s = SIG s) := by show _ = _; unfold BNT; rw [if_neg b1, if_pos b2]
     subst b2
     go_enter Tryz.func125, Tryz.ntmps125
     go_wp2_with (first | (go_at_call 132; refine (sig_any _ _ h0 h1).mono ?_; rintro e w1 ⟨rfl, hb⟩; have HB : Hid _ := hb; clear hb))
     go_ret
     exact ⟨ret_int R.out.symm, HB.out⟩
   · have g1 : (bend == 1) = false := by simpa using b1
     have g2 : (bend == 2) = false := by simpa using b2
     have R : Hid (BNT bend s = ABV s s) := by show _ = _; unfold BNT; rw [if_neg b1, if_neg b2]; rfl
     clear b1 b2
     go_enter Tryz.func125, Tryz.ntmps125
     go_wp2_with (first | (go_at_call 127; refine (ifAbove_any s s _ h0 h1).mono ?_; rintro e w1 ⟨rfl, hw'⟩; subst w1))
     go_ret
     exact ⟨ret_int R.out.symm, Below.refl _ _⟩
theorem mulb2 (x y : Int) (hx : 0 ≤ x ∧ x ≤ 4) (hy : 0 ≤ y ∧ y ≤ 4) : 0 ≤ x * (1 + y) ∧ x * (1 + y) ≤ 20 := by
 rw [Int.add_comm]; exact mulb x y hx hy
set_option maxHeartbeats 1000000 in
theorem bias_any (B o : Nat) (f a u : Int) (w : World) (hf : 0 ≤ f ∧ f ≤ 100) (ha : 0 ≤ a ∧ a ≤ 4) (hu : 0 ≤ u ∧ u ≤ 4) (c0 : w.cell? ⟨B, o, none⟩ = some (.int .i64 a)) (c2 : w.cell? ⟨B, o + 2, none⟩ = some (.int .i64 f)) :
 Calls Tryz.prog 84 #[.pointer (some ⟨B, o, none⟩), .int .i64 u] w fun e w' => e = .returned (.int .i64 (f + u * (1 + a))) ∧ Below w.heap.size w w' := by
 have m := mulb2 u a hu ha
 have W1 : IntKind.i64.wrap (u * (1 + a)) = u * (1 + a) := wrap_id _ (by omega) (by omega)
 have W2 : IntKind.i64.wrap (f + u * (1 + a)) = f + u * (1 + a) := wrap_id _ (by omega) (by omega)
 go_enter Tryz.func84, Tryz.ntmps84
 go_upto_region 1 with fail
 go_quiet (fail)
 go_wp2
 go_ret
 exact ⟨rfl, Go.Joins.below_draws _ _ _⟩
set_option maxHeartbeats 1000000 in
theorem pweight_any (B o : Nat) (f a u v : Int) (w : World) (hf : 0 ≤ f ∧ f ≤ 100) (ha : 0 ≤ a ∧ a ≤ 4) (hu : 0 ≤ u ∧ u ≤ 4) (hv : 0 ≤ v ∧ v ≤ 4) (c0 : w.cell? ⟨B, o, none⟩ = some (.int .i64 a)) (c2 : w.cell? ⟨B, o + 2, none⟩ = some (.int .i64 f)) :
 Calls Tryz.prog 116 #[.pointer (some ⟨B, o, none⟩), .int .i64 u, .int .i64 v] w fun e w' => e = .returned (.int .i64 (f + u * (1 + a) + 1 + v)) ∧ Below w.heap.size w w' := by
 have m := mulb2 u a hu ha
 have X : Hid (Calls Tryz.prog 84 #[.pointer (some ⟨B, o, none⟩), .int .i64 u] w fun e w' => e = .returned (.int .i64 (f + u * (1 + a))) ∧ Below w.heap.size w w') := bias_any B o f a u w hf ha hu c0 c2
 obtain ⟨p, hp⟩ : ∃ p, p = f + u * (1 + a) := ⟨_, rfl⟩
 have pb : 0 ≤ p ∧ p ≤ 120 := by omega
 rw [← hp] at X ⊢
 clear hp m
 go_enter Tryz.func116, Tryz.ntmps116
 go_wp2_with (first | (go_at_call 84; refine X.out.mono ?_; rintro e w1 ⟨rfl, hb⟩; have HB : Hid _ := hb; clear hb))
 go_ret
 exact ⟨rfl, HB.out⟩
set_option maxHeartbeats 1000000 in
theorem pend_any (B o : Nat) (f a u : Int) (w : World) (hf : 0 ≤ f ∧ f ≤ 100) (ha : 0 ≤ a ∧ a ≤ 4) (hu : 0 ≤ u ∧ u ≤ 4) (c0 : w.cell? ⟨B, o, none⟩ = some (.int .i64 a)) (c1 : w.cell? ⟨B, o + 1, none⟩ = some (.int .i64 u)) (c2 : w.cell? ⟨B, o + 2, none⟩ = some (.int .i64 f)) :
 Calls Tryz.prog 53 #[.pointer (some ⟨B, o, none⟩)] w fun e w' => e = .returned (.int .i64 (f + u * (1 + a))) ∧ Below w.heap.size w w' := by
 have X : Hid (Calls Tryz.prog 84 #[.pointer (some ⟨B, o, none⟩), .int .i64 u] w fun e w' => e = .returned (.int .i64 (f + u * (1 + a))) ∧ Below w.heap.size w w') := bias_any B o f a u w hf ha hu c0 c2
 go_enter Tryz.func53, Tryz.ntmps53
 go_wp2_with (first | (go_at_call 84; refine X.out.mono ?_; rintro e w1 ⟨rfl, hb⟩; have HB : Hid _ := hb; clear hb))
 go_ret
 exact ⟨rfl, HB.out⟩
end Go.Proofs.YtoihkljlekknkaaGreat
/-
  A hidden unit's error, of the program. Conditions: the patterns are 0 to 2^32 - 1; the numbers are small.
-/
namespace Go.Proofs.YtoihkljlekknkaaGreat
open Go.RowKit
set_option linter.unusedVariables false
set_option linter.unusedSimpArgs false
set_option maxHeartbeats 1000000 in
theorem error_any (B o ga gs na ca ns cs u : Nat) (bend blame s a : Int) (w : World) (h0 : 0 ≤ blame ∧ blame < 4294967296) (h1 : 0 ≤ s ∧ s < 4294967296) (h2 : 0 ≤ a ∧ a < 4294967296)
 (hna : u < na) (hns : u < ns) (n4 : na ≤ 4) (m4 : ns ≤ 4)
 (c5 : w.cell? ⟨B, o + 5, none⟩ = some (.int .i64 bend)) (c6 : w.cell? ⟨B, o + 6, none⟩ = some (.slice (some ⟨ga, 0, none⟩) na ca)) (c4 : w.cell? ⟨B, o + 4, none⟩ = some (.slice (some ⟨gs, 0, none⟩) ns cs))
 (ea : w.cell? ⟨ga, u, none⟩ = some (.int .u32 a)) (es : w.cell? ⟨gs, u, none⟩ = some (.int .u32 s)) :
 Calls Tryz.prog 117 #[.pointer (some ⟨B, o, none⟩), .int .i64 (u : Int), .int .u32 blame] w fun e w' => e = .returned (.int .u32 (SLP bend blame s a)) ∧ w' = w := by
 have ula : (u : Int) < (na : Int) := by omega
 have uls : (u : Int) < (ns : Int) := by omega
 by_cases b1 : bend = 1
 · have R : Hid (SLP bend blame s a = MUL blame (SUB 1065353216 (MUL a a))) := by show _ = _; unfold SLP; rw [if_pos b1]
   have m1 := MUL_bd' a a
   obtain ⟨x, hx⟩ : ∃ x, x = MUL a a := ⟨_, rfl⟩
   have X1 : Hid (∀ W, Calls Tryz.prog 61 #[.int .u32 a, .int .u32 a] W fun e w' => e = .returned (.int .u32 x) ∧ w' = W) := fun W => by rw [hx]; exact mul_any a a W h2.1 h2.2 h2.1 h2.2
   rw [← hx] at m1 R
   have m2 := SUB_bd 1065353216 x (by decide) (by decide)
   obtain ⟨y, hy⟩ : ∃ y, y = SUB 1065353216 x := ⟨_, rfl⟩
   have X2 : Hid (∀ W, Calls Tryz.prog 64 #[.int .u32 1065353216, .int .u32 x] W fun e w' => e = .returned (.int .u32 y) ∧ w' = W) := fun W => by rw [hy]; exact sub_any 1065353216 x W (by decide) (by decide) m1.1 m1.2
   rw [← hy] at m2 R
   have X3 : Hid (∀ W, Calls Tryz.prog 61 #[.int .u32 blame, .int .u32 y] W fun e w' => e = .returned (.int .u32 (MUL blame y)) ∧ w' = W) := fun W => mul_any blame y W h0.1 h0.2 m2.1 m2.2
   clear hx hy
   subst b1
   go_enter Tryz.func117, Tryz.ntmps117
   go_wp2_with (first
    | (go_at_call_of 61 (Value.int IntKind.u32 y); refine (X3.out _).mono ?_; rintro e w3 ⟨rfl, hw'⟩; subst w3)
    | (go_at_call_of 61 (Value.int IntKind.u32 a); refine (X1.out _).mono ?_; rintro e w1 ⟨rfl, hw'⟩; subst w1)
    | (go_at_call 64; refine (X2.out _).mono ?_; rintro e w2 ⟨rfl, hw'⟩; subst w2))
   go_ret
   exact ⟨ret_int R.out.symm, rfl⟩
 · by_cases b2 : bend = 2
   · have R : Hid (SLP bend blame s a = MUL blame (MUL a (SUB 1065353216 a))) := by show _ = _; unfold SLP; rw [if_neg b1, if_pos b2]
     have m1 := SUB_bd 1065353216 a (by decide) (by decide)
     obtain ⟨x, hx⟩ : ∃ x, x = SUB 1065353216 a := ⟨_, rfl⟩
     have X1 : Hid (∀ W, Calls Tryz.prog 64 #[.int .u32 1065353216, .int .u32 a] W fun e w' => e = .returned (.int .u32 x) ∧ w' = W) := fun W => by rw [hx]; exact sub_any 1065353216 a W (by decide) (by decide) h2.1 h2.2
     rw [← hx] at m1 R
     have m2 := MUL_bd' a x
     obtain ⟨y, hy⟩ : ∃ y, y = MUL a x := ⟨_, rfl⟩
     have X2 : Hid (∀ W, Calls Tryz.prog 61 #[.int .u32 a, .int .u32 x] W fun e w' => e = .returned (.int .u32 y) ∧ w' = W) := fun W => by rw [hy]; exact mul_any a x W h2.1 h2.2 m1.1 m1.2
     rw [← hy] at m2 R
     have X3 : Hid (∀ W, Calls Tryz.prog 61 #[.int .u32 blame, .int .u32 y] W fun e w' => e = .returned (.int .u32 (MUL blame y)) ∧ w' = W) := fun W => mul_any blame y W h0.1 h0.2 m2.1 m2.2
     clear hx hy
     subst b2
     go_enter Tryz.func117, Tryz.ntmps117
     go_wp2_with (first
      | (go_at_call_of 61 (Value.int IntKind.u32 y); refine (X3.out _).mono ?_; rintro e w3 ⟨rfl, hw'⟩; subst w3)
      | (go_at_call_of 61 (Value.int IntKind.u32 x); refine (X2.out _).mono ?_; rintro e w2 ⟨rfl, hw'⟩; subst w2)
      | (go_at_call 64; refine (X1.out _).mono ?_; rintro e w1 ⟨rfl, hw'⟩; subst w1))
     go_ret
     exact ⟨ret_int R.out.symm, rfl⟩
   · have g1 : (bend == 1) = false := by simpa using b1
     have g2 : (bend == 2) = false := by simpa using b2
     have R : Hid (SLP bend blame s a = ABV s blame) := by show _ = _; unfold SLP; rw [if_neg b1, if_neg b2]; rfl
     clear b1 b2
     go_enter Tryz.func117, Tryz.ntmps117
     go_wp2_with (first | (go_at_call 127; refine (ifAbove_any s blame _ h1.1 h1.2).mono ?_; rintro e w1 ⟨rfl, hw'⟩; subst w1))
     go_ret
     exact ⟨ret_int R.out.symm, rfl⟩
end Go.Proofs.YtoihkljlekknkaaGreat
/-
  Where a weight of the document's lies. Conditions: the widths are 0 to 4; the layer is 1 to 4, the unit up to 4, the weight -1 (the bias) to 4.
-/
namespace Go.Proofs.YtoihkljlekknkaaGreat
open Go.RowKit
open Go.Joins (block_setCell cell_of_block unfrozen_of_block)
set_option linter.unusedVariables false
set_option linter.unusedSimpArgs false
/-- the configuration lies in its block; one width of it; nothing old has turned -/
def SR (w : World) (g : Nat) (cs : List Value) (q : Nat) (y : Int) (w' : World) : Prop := w'.rangeAt g 0 cs ∧ w'.cell? ⟨g, q, none⟩ = some (.int .i64 y) ∧ g < w'.heap.size ∧ Below w.heap.size w w'
theorem rangeAt_below {w w' : World} {g : Nat} {cs : List Value} (h : w.rangeAt g 0 cs) (hg : g < w.heap.size) (b : Below w.heap.size w w') : w'.rangeAt g 0 cs := by
 intro j v hv
 have := h j v hv
 exact (b.cell (p := ⟨g, 0 + j, none⟩) hg).trans this
theorem rng {w : World} {g : Nat} {Y : Array Value} {t : TypeId} (h : w.heap[g]? = some (.cells Y t (0, 0))) : w.rangeAt g 0 Y.toList := fun j v hv => by
 rw [Nat.zero_add, cell_of_row w g j Y t (0, 0) h]; simpa using hv
theorem keepSR {w W w2 : World} {g q : Nat} {cs : List Value} {y : Int} (h : SR w g cs q y W) (hb : Below W.heap.size W w2) : SR w g cs q y w2 :=
 ⟨rangeAt_below h.1 h.2.2.1 hb, (hb.cell (p := ⟨g, q, none⟩) h.2.2.1).trans h.2.1, Nat.lt_of_lt_of_le h.2.2.1 hb.size, h.2.2.2.trans (hb.mono h.2.2.2.size)⟩
theorem mulj (j y : Int) (hj : 0 ≤ j ∧ j ≤ 4) (hy : 0 ≤ y ∧ y ≤ 4) : 0 ≤ j * (y + 1) ∧ j * (y + 1) ≤ 20 := mulb j y hj hy
set_option maxHeartbeats 4000000 in
set_option maxRecDepth 100000 in
theorem weight_any (c : Cf) (hw : WB c) (k : Nat) (hk1 : 1 ≤ k) (hk : k ≤ 4) (j : Int) (hj : 0 ≤ j ∧ j ≤ 4) (i : Int) (hi : -1 ≤ i ∧ i ≤ 4) (w : World) :
 Calls Tryz.prog 109 #[.agg (rcs c), .int .i64 (k : Int), .int .i64 j, .int .i64 i] w fun e w' => e = .returned (.int .i64 (stN c k + j * (wd c (k - 1) + 1) + 1 + i)) ∧ Below w.heap.size w w' := by
 have ST : Hid (∀ W, Calls Tryz.prog 69 #[.agg (rcs c), .int .i64 (k : Int)] W fun e w' => e = .returned (.int .i64 (stN c k)) ∧ Below W.heap.size W w') := fun W => start_any c hw k hk W
 have z0 := stN_bd c hw k hk
 have y0 := hw (k - 1) (by omega)
 have IC : (Tryz.prog.info? 24).map (·.size) = some (rcs c).toList.length := by rw [Array.length_toList]; exact infoC c
 have cw : (rcs c)[1 + (k - 1)]? = some (.int .i64 (wd c (k - 1))) := rcs_wide c (k - 1) (by omega)
 obtain ⟨y, hy⟩ : ∃ y, y = wd c (k - 1) := ⟨_, rfl⟩
 obtain ⟨z, hz⟩ : ∃ z, z = stN c k := ⟨_, rfl⟩
 rw [← hy] at y0 cw ⊢
 rw [← hz] at z0 ST ⊢
 obtain ⟨X, hX⟩ : ∃ X, X = rcs c := ⟨_, rfl⟩
 rw [← hX] at ST IC cw ⊢
 have mb := mulj j y hj y0
 obtain ⟨u, hu⟩ : ∃ u, j * (y + 1) = u := ⟨_, rfl⟩
 rw [hu] at mb ⊢
 have f1 : IntKind.i64.wrap (y + 1) = y + 1 := wrap_id _ (by omega) (by omega)
 have f2 : IntKind.i64.wrap (j * (y + 1)) = u := by rw [hu]; exact wrap_id _ (by omega) (by omega)
 have f3 : IntKind.i64.wrap (z + u) = z + u := wrap_id _ (by omega) (by omega)
 have f4 : IntKind.i64.wrap (z + u + 1) = z + u + 1 := wrap_id _ (by omega) (by omega)
 have f5 : IntKind.i64.wrap (z + u + 1 + i) = z + u + 1 + i := wrap_id _ (by omega) (by omega)
 have g0 : IntKind.i64.wrap 0 = 0 := by decide
 have g1 : IntKind.i64.wrap 1 = 1 := by decide
 have g2 : IntKind.i64.wrap 2 = 2 := by decide
 have g3 : IntKind.i64.wrap 3 = 3 := by decide
 obtain ⟨W, hW, b0, bel, hws⟩ := one_block w X 24
 have d1 : W.cell? ⟨w.heap.size, 1 + (k - 1), none⟩ = some (.int .i64 y) := (cell_of_block b0 (1 + (k - 1))).trans cw
 have S0 : SR w w.heap.size X.toList (1 + (k - 1)) y W.drew := ⟨rng b0, d1, by show _ < W.heap.size; omega, bel.drew⟩
 have HW : Hid _ := hW
 have HI : Hid _ := IC
 clear b0 bel hW hX hws IC hu cw hy hz hw d1
 rcases (show k = 1 ∨ k = 2 ∨ k = 3 ∨ k = 4 by omega) with rfl | rfl | rfl | rfl
 all_goals
  simp only [Nat.reduceSub, Nat.reduceAdd] at S0
  go_enter Tryz.func109, Tryz.ntmps109
  go_upto_region 1 with fail
  rw [HW.out]
  refine wp_region_held_drew (by kernel_rfl) S0 (fun hS => ?_)
  refine wpAnyH_take (i := 0) (oi := ⟨some 9, .load 24 (.tmp 4), 24, "train.go:174", #[], none⟩) (v := .agg X.toList.toArray) rfl (by kernel_rfl) (by kernel_rfl) (by kernel_rfl) (fun _ _ _ h => h) (yieldsIf_load_mid (by rfl) 24 _ rfl w.heap.size 0 rfl X.toList _ (fun w h => h.1) Tryz.underlying24 rfl HI.out) hS ?_
  rw [Array.toArray_toList]
  try go_frame
  refine wpAnyH_take (i := 1) (oi := ⟨some 10, .move (.tmp 1), 3, "train.go:174", #[], none⟩) (v := ?_) rfl (by kernel_rfl) (by kernel_rfl) (by kernel_rfl) (fun _ _ _ h => h) (Or.inl ⟨by kernel_rfl, ?_⟩) hS ?_
  rotate_left
  · intro w hSw
    unfold SR at hSw
    go_simp
    try with_reducible rfl
  try go_frame
  refine wpAnyH_take (i := 3) (oi := ⟨some 12, .move (.tmp 2), 3, "train.go:174", #[], none⟩) (v := ?_) rfl (by kernel_rfl) (by kernel_rfl) (by kernel_rfl) (fun _ _ _ h => h) (Or.inl ⟨by kernel_rfl, ?_⟩) hS ?_
  rotate_left
  · intro w hSw
    unfold SR at hSw
    go_simp
    try with_reducible rfl
  try go_frame
  refine wpAnyH_take (i := 4) (oi := ⟨some 13, .move (.tmp 1), 3, "train.go:174", #[], none⟩) (v := ?_) rfl (by kernel_rfl) (by kernel_rfl) (by kernel_rfl) (fun _ _ _ h => h) (Or.inl ⟨by kernel_rfl, ?_⟩) hS ?_
  rotate_left
  · intro w hSw
    unfold SR at hSw
    go_simp
    try with_reducible rfl
  try go_frame
  refine wpAnyH_take (i := 5) (oi := ⟨some 14, .binOp .sub 3 (.tmp 13) (.const (.int .i64 1)) 3, 3, "train.go:174", #[⟨4, .data⟩], none⟩) (v := ?_) rfl (by kernel_rfl) (by kernel_rfl) (by kernel_rfl) (fun _ _ _ h => h) (Or.inl ⟨by kernel_rfl, ?_⟩) hS ?_
  rotate_left
  · intro w hSw
    unfold SR at hSw
    go_simp
    try with_reducible rfl
  try go_frame
  refine wpAnyH_take (i := 6) (oi := ⟨some 15, .fieldAddr 24 (.tmp 4) 1, 0, "train.go:174", #[], none⟩) (v := ?_) rfl (by kernel_rfl) (by kernel_rfl) (by kernel_rfl) (fun _ _ _ h => h) (Or.inl ⟨by kernel_rfl, ?_⟩) hS ?_
  rotate_left
  · intro w hSw
    unfold SR at hSw
    go_simp
    try with_reducible rfl
  try go_frame
  refine wpAnyH_take (i := 7) (oi := ⟨some 16, .indexAddr 22 (.tmp 15) (.tmp 14), 0, "train.go:174", #[⟨6, .data⟩, ⟨5, .data⟩], none⟩) (v := ?_) rfl (by kernel_rfl) (by kernel_rfl) (by kernel_rfl) (fun _ _ _ h => h) (Or.inl ⟨by kernel_rfl, ?_⟩) hS ?_
  rotate_left
  · intro w hSw
    unfold SR at hSw
    go_simp
    try with_reducible rfl
  try go_frame
  refine wpAnyH_take (i := 8) (oi := ⟨some 17, .load 3 (.tmp 16), 3, "train.go:174", #[⟨7, .data⟩], none⟩) (v := ?_) rfl (by kernel_rfl) (by kernel_rfl) (by kernel_rfl) (fun _ _ _ h => h) (Or.inl ⟨by kernel_rfl, ?_⟩) hS ?_
  rotate_left
  · intro w hSw
    unfold SR at hSw
    go_simp
    try with_reducible rfl
  try go_frame
  refine wpAnyH_take (i := 9) (oi := ⟨some 18, .binOp .add 3 (.tmp 17) (.const (.int .i64 1)) 3, 3, "train.go:174", #[⟨8, .data⟩], none⟩) (v := ?_) rfl (by kernel_rfl) (by kernel_rfl) (by kernel_rfl) (fun _ _ _ h => h) (Or.inl ⟨by kernel_rfl, ?_⟩) hS ?_
  rotate_left
  · intro w hSw
    unfold SR at hSw
    go_simp
    try with_reducible rfl
  try go_frame
  refine wpAnyH_take (i := 10) (oi := ⟨some 19, .binOp .mul 3 (.tmp 12) (.tmp 18) 3, 3, "train.go:174", #[⟨3, .data⟩, ⟨9, .data⟩], none⟩) (v := ?_) rfl (by kernel_rfl) (by kernel_rfl) (by kernel_rfl) (fun _ _ _ h => h) (Or.inl ⟨by kernel_rfl, ?_⟩) hS ?_
  rotate_left
  · intro w hSw
    unfold SR at hSw
    go_simp
    try with_reducible rfl
  try go_frame
  refine wpAnyH_take (i := 13) (oi := ⟨some 22, .move (.tmp 3), 3, "train.go:174", #[], none⟩) (v := ?_) rfl (by kernel_rfl) (by kernel_rfl) (by kernel_rfl) (fun _ _ _ h => h) (Or.inl ⟨by kernel_rfl, ?_⟩) hS ?_
  rotate_left
  · intro w hSw
    unfold SR at hSw
    go_simp
    try with_reducible rfl
  try go_frame
  refine wpAnyH_ready (rs := [2]) (by kernel_rfl) (by simp) ?_
  refine AllReadyH.cons (o := ⟨some 11, .call { callee := .value (.func 69), args := #[.tmp 9, .tmp 10], argTypes := #[24, 3] }, 3, "train.go:174", #[⟨0, .data⟩, ⟨1, .data⟩], none⟩) rfl (fun K hK => ?_) AllReadyH.nil
  go_simp
  refine (ST.out _).mono ?_
  rintro e w1 ⟨rfl, hb⟩
  have S1 := keepSR hS hb
  clear hb
  go_wp2_with fail
  refine hK.out _ _ S1 (fun hS => ?_)
  try go_frame
  clear hK K
  refine wpAnyH_take (i := 11) (oi := ⟨some 20, .binOp .add 3 (.tmp 11) (.tmp 19) 3, 3, "train.go:174", #[⟨2, .data⟩, ⟨10, .data⟩], none⟩) (v := ?_) rfl (by kernel_rfl) (by kernel_rfl) (by kernel_rfl) (fun _ _ _ h => h) (Or.inl ⟨by kernel_rfl, ?_⟩) hS ?_
  rotate_left
  · intro w hSw
    unfold SR at hSw
    go_simp
    try with_reducible rfl
  try go_frame
  refine wpAnyH_take (i := 12) (oi := ⟨some 21, .binOp .add 3 (.tmp 20) (.const (.int .i64 1)) 3, 3, "train.go:174", #[⟨11, .data⟩], none⟩) (v := ?_) rfl (by kernel_rfl) (by kernel_rfl) (by kernel_rfl) (fun _ _ _ h => h) (Or.inl ⟨by kernel_rfl, ?_⟩) hS ?_
  rotate_left
  · intro w hSw
    unfold SR at hSw
    go_simp
    try with_reducible rfl
  try go_frame
  refine wpAnyH_take (i := 14) (oi := ⟨some 23, .binOp .add 3 (.tmp 21) (.tmp 22) 3, 3, "train.go:174", #[⟨12, .data⟩, ⟨13, .data⟩], none⟩) (v := ?_) rfl (by kernel_rfl) (by kernel_rfl) (by kernel_rfl) (fun _ _ _ h => h) (Or.inl ⟨by kernel_rfl, ?_⟩) hS ?_
  rotate_left
  · intro w hSw
    unfold SR at hSw
    go_simp
    try with_reducible rfl
  try go_frame
  refine wpAnyH_ready (rs := [15]) (by kernel_rfl) (by simp) ?_
  refine AllReadyH.cons (o := ⟨some 8, .assign (.tmp 23), 3, "train.go:174", #[⟨14, .data⟩, ⟨2, .chain⟩, ⟨0, .phase⟩, ⟨1, .phase⟩, ⟨2, .phase⟩, ⟨3, .phase⟩, ⟨4, .phase⟩, ⟨5, .phase⟩, ⟨6, .phase⟩, ⟨7, .phase⟩, ⟨8, .phase⟩, ⟨9, .phase⟩, ⟨10, .phase⟩, ⟨11, .phase⟩, ⟨12, .phase⟩, ⟨13, .phase⟩, ⟨14, .phase⟩], none⟩) rfl (fun K hK => ?_) AllReadyH.nil
  go_simp
  refine hK.out _ _ hS (fun hS => ?_)
  try go_frame
  clear hK K
  refine wpAnyH_done (by kernel_rfl) ?_ _
  go_wp2
  go_ret
  exact ⟨ret_int (by omega), hS.2.2.2⟩
end Go.Proofs.YtoihkljlekknkaaGreat
