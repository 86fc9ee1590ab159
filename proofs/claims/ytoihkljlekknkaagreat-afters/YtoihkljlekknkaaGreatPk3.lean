/-
  Pick, of the program and of the document: one number. Conditions: the seed is 0 to 2^32 - 1.
-/
import Derived.Test.YtoihkljlekknkaaGreatPk1
import Derived.Deep.RegionHeld3
import Derived.Laws.AppendOwn
import Derived.Deep.AppendLies
import Derived.Lib.SmallJoins
namespace Go.Proofs.YtoihkljlekknkaaGreat
open Go.RowKit
set_option linter.unusedVariables false
set_option linter.unusedSimpArgs false
def PICK (seed samples place : Int) : Int :=
 if 1 ≤ samples ∧ samples ≤ 16 ∧ 0 ≤ place then (ROW (MIX ((seed + place / samples) % 4294967296)) samples.toNat).getD (place % samples).toNat 0 else 0
theorem PICK_in (seed : Int) (n : Nat) (place : Int) (h0 : 1 ≤ n) (h1 : n ≤ 16) (h2 : 0 ≤ place) : PICK seed n place = (ROW (MIX ((seed + place / n) % 4294967296)) n).getD (place % n).toNat 0 := by
 unfold PICK; rw [if_pos (by omega)]; rfl
theorem PICK_out (seed n place : Int) (h : ¬ (1 ≤ n ∧ n ≤ 16 ∧ 0 ≤ place)) : PICK seed n place = 0 := by unfold PICK; rw [if_neg h]
set_option maxHeartbeats 1000000 in
set_option maxRecDepth 100000 in
theorem pick_any (cs : Array Value) (seed samples place : Int) (w : World) (hsz : cs.size = 20) (hc : cs[14]? = some (.int .u32 seed)) (hs0 : 0 ≤ seed) (hs1 : seed < 4294967296) (hp : place ≤ 9223372036854775807) :
 Calls Tryz.prog 32 #[.agg cs, .int .i64 samples, .int .i64 place] w fun e w' => e = .returned (.int .i64 (PICK seed samples place)) ∧ Below w.heap.size w w' := by
 obtain ⟨W, hW⟩ : ∃ W, W = w.alloc (.cells cs 31) := ⟨_, rfl⟩
 have BA : Hid (Below w.heap.size w W) := by show Below _ _ _; rw [hW]; exact (Below.refl _ _).alloc (Nat.le_refl _) _
 have c14 : W.cell? ⟨w.heap.size, 14, none⟩ = some (.int .u32 seed) := by rw [hW, World.cell?_alloc_mark]; exact hc
 have WS : Hid (W.heap.size = w.heap.size + 1) := by show _ = _; rw [hW]; simp
 have HW : Hid _ := hW.symm
 clear hW
 by_cases h1 : 1 ≤ samples ∧ samples ≤ 16
 · by_cases h2 : 0 ≤ place
   · obtain ⟨n, rfl⟩ : ∃ n : Nat, samples = n := ⟨samples.toNat, by omega⟩
     have n0 : 1 ≤ n := by omega
     have n1 : n ≤ 16 := by omega
     obtain ⟨q, hq⟩ : ∃ q, q = place / (n : Int) := ⟨_, rfl⟩
     have q0 : 0 ≤ q := by rw [hq]; exact Int.ediv_nonneg h2 (by omega)
     have q1 : q ≤ place := by rw [hq]; exact Int.ediv_le_self _ h2
     obtain ⟨j, hj⟩ : ∃ j, j = (place % (n : Int)).toNat := ⟨_, rfl⟩
     have r0 : 0 ≤ place % (n : Int) := Int.emod_nonneg _ (by omega)
     have r1 : place % (n : Int) < n := Int.emod_lt_of_pos _ (by omega)
     have hjn : j < n := by omega
     have J : place % (n : Int) = (j : Int) := by omega
     have J' : place.tmod (n : Int) = (j : Int) := by rw [Int.tmod_eq_emod_of_nonneg h2]; exact J
     have Q := hq.symm
     have Q' : place.tdiv (n : Int) = q := by rw [Int.tdiv_eq_ediv_of_nonneg h2]; exact Q
     obtain ⟨R, hR⟩ : ∃ R, R = ROW (MIX ((seed + q) % 4294967296)) n := ⟨_, rfl⟩
     have RL : Hid (R.length = n) := by show _ = _; rw [hR]; exact ROW_len _ _
     have E : Hid (PICK seed n place = R.getD j 0) := by show _ = _; rw [PICK_in seed n place n0 n1 h2, ← hq, ← hj, ← hR]
     have HR : Hid _ := hR
     have jl : (j : Int) < (n : Int) := by omega
     have hb1 : inB (n : Int) 1 16 = true := inB_t (by omega)
     have z1 : ((n : Int) == 0) = false := by simp; omega
     have z2 : ¬ n = 0 := by omega
     have x1 : IntKind.i64.wrap q = q := by rw [IntKind.wrap_i64]; omega
     have x2 : IntKind.i64.wrap (j : Int) = (j : Int) := by rw [IntKind.wrap_i64]; omega
     clear hq hj r0 r1 hR
     go_enter Tryz.func32, Tryz.ntmps32
     go_wp2_with (first | (go_at_call 49; refine (within_any _ _ _ _).mono ?_; rintro e w' ⟨rfl, hw'⟩; subst w'; rw [hb1]))
     rw [HW.out]
     go_region_with (first
      | (go_at_call 67; refine (row_any seed q n _ hs0 hs1 n0 n1 q0 (by omega)).mono ?_; rintro e w1 ⟨rfl, ho, hb⟩
         have ck : w1.cell? ⟨w.heap.size, 14, none⟩ = some (.int .u32 seed) := (hb.cell (p := ⟨w.heap.size, 14, none⟩) (by show w.heap.size < W.heap.size; rw [WS.out]; omega)).trans c14
         have cj : w1.cell? ⟨W.heap.size, j, none⟩ = some (.int .i64 (R.getD j 0)) := by rw [HR.out]; exact (ho.cellAt j (by omega)).trans (ints_at _ j (by rw [← HR.out, RL.out]; exact hjn))
         have HB : Hid _ := hb
         have OW : Hid _ := ho
         clear hb ho))
     all_goals go_wp2
     all_goals go_ret
     all_goals exact ⟨ret_int E.out.symm, BA.out.drew.trans (HB.out.mono (show w.heap.size ≤ W.heap.size by rw [WS.out]; omega))⟩
   · have E : PICK seed samples place = 0 := PICK_out _ _ _ (by omega)
     have hb1 : inB samples 1 16 = true := inB_t h1
     rw [E]
     clear E
     go_enter Tryz.func32, Tryz.ntmps32
     go_wp2_with (first | (go_at_call 49; refine (within_any _ _ _ _).mono ?_; rintro e w' ⟨rfl, hw'⟩; subst w'; rw [hb1]))
     go_ret
     rw [HW.out]
     exact ⟨rfl, BA.out⟩
 · have E : PICK seed samples place = 0 := PICK_out _ _ _ (by omega)
   have hb1 : inB samples 1 16 = false := inB_f h1
   rw [E]
   clear E
   go_enter Tryz.func32, Tryz.ntmps32
   go_wp2_with (first | (go_at_call 49; refine (within_any _ _ _ _).mono ?_; rintro e w' ⟨rfl, hw'⟩; subst w'; rw [hb1]))
   go_ret
   rw [HW.out]
   exact ⟨rfl, BA.out⟩
/-! the document's -/
theorem one_int (w : World) (x : Int) : ∀ j u, [Value.int IntKind.i64 x][j]? = some u → (w.alloc (.cells #[.int .i64 x] 3)).cell? ((⟨w.heap.size, 0, none⟩ : Addr).add j) = some u := by
 intro j u hu
 match j with
 | 0 =>
   have e : (⟨w.heap.size, 0, none⟩ : Addr).add 0 = ⟨w.heap.size, 0, none⟩ := by unfold Addr.add; split <;> simp_all
   rw [e, World.cell?_alloc_mark]
   simpa using hu
 | j + 1 => simp at hu
theorem ints_app (l : List Int) (x : Int) : ints l ++ [.int .i64 x] = ints (l ++ [x]) := by simp [ints]
theorem one_cell (x : Int) : ∀ u ∈ [Value.int IntKind.i64 x], u.oneCell' = true := by
 intro u hu
 simp at hu
 subst hu
 rfl
set_option maxHeartbeats 2000000 in
set_option maxRecDepth 100000 in
theorem rpick_any (seed samples place : Int) (w : World) (hs0 : 0 ≤ seed) (hs1 : seed < 4294967296) (hp : place ≤ 9223372036854775807) :
 Calls Tryz.prog 74 #[.int .i64 seed, .int .i64 samples, .int .i64 place] w fun e w' => e = .returned (.int .i64 (PICK seed samples place)) ∧ Below w.heap.size w w' := by
 by_cases h1 : 1 ≤ samples ∧ samples ≤ 16
 · by_cases h2 : 0 ≤ place
   · obtain ⟨n, rfl⟩ : ∃ n : Nat, samples = n := ⟨samples.toNat, by omega⟩
     have n0 : 1 ≤ n := by omega
     have n1 : n ≤ 16 := by omega
     obtain ⟨q, hq⟩ : ∃ q, q = place / (n : Int) := ⟨_, rfl⟩
     have q0 : 0 ≤ q := by rw [hq]; exact Int.ediv_nonneg h2 (by omega)
     have q1 : q ≤ place := by rw [hq]; exact Int.ediv_le_self _ h2
     obtain ⟨p, hpp⟩ : ∃ j, j = (place % (n : Int)).toNat := ⟨_, rfl⟩
     have r0 : 0 ≤ place % (n : Int) := Int.emod_nonneg _ (by omega)
     have r1 : place % (n : Int) < n := Int.emod_lt_of_pos _ (by omega)
     have hjn : p < n := by omega
     have J : place % (n : Int) = (p : Int) := by omega
     have J' : place.tmod (n : Int) = (p : Int) := by rw [Int.tmod_eq_emod_of_nonneg h2]; exact J
     have Q := hq.symm
     have Q' : place.tdiv (n : Int) = q := by rw [Int.tdiv_eq_ediv_of_nonneg h2]; exact Q
     obtain ⟨key, hkey⟩ : ∃ k, k = MIX ((seed + q) % 4294967296) := ⟨_, rfl⟩
     have kb := MIX_bd ((seed + q) % 4294967296) (by omega) (by omega)
     rw [← hkey] at kb
     obtain ⟨kb0, kb1⟩ := kb
     have KEY := hkey.symm
     have E : Hid (PICK seed n place = (ROW key n).getD p 0) := by show _ = _; rw [PICK_in seed n place n0 n1 h2, ← hq, ← hpp, hkey]
     have jl : (p : Int) < (n : Int) := by omega
     have hb1 : inB (n : Int) 1 16 = true := inB_t (by omega)
     have z1 : ((n : Int) == 0) = false := by simp; omega
     have z2 : ¬ n = 0 := by omega
     clear hq hpp r0 r1 hkey
     obtain ⟨i0, hi, hz0, hz1, hz2⟩ := info_parts Tryz.infoI
     go_enter Tryz.func74, Tryz.ntmps74
     go_wp2_with (first | (go_at_call 68; refine (rin_any _ _ _ _).mono ?_; rintro e w' ⟨rfl, hw'⟩; subst w'; rw [hb1]) | (go_at_call 37; refine (rmix_any _ _ (by omega) (by omega)).mono ?_; rintro e w' ⟨rfl, hw'⟩; subst w'; rw [KEY]))
     go_loopw [9, 10] (fun lv iv wr => ∃ k : Nat, k ≤ n ∧ iv = .int .i64 k ∧ Hid (wr.ownsRow w.heap.size 3 1 lv k (ints (firstN k))) ∧ Hid (Below w.heap.size w wr)) (fun _ iv _ => n - (intOf iv).toNat)
     case atStart => exact ⟨0, by omega, rfl, World.ownsRow_nil _ _ _ _, Below.refl _ _⟩
     case round =>
      obtain ⟨k, hk, rfl, OW, BW⟩ := hrel
      by_cases hlt : k < n
      · have c5 : Hid (w.heap.size ≤ wr.heap.size) := BW.out.size
        have c6 : Hid (w.heap.size ≤ (wr.alloc (.cells #[.int .i64 (k : Int)] 3)).heap.size) := by show _ ≤ _; have := c5.out; simp; omega
        have c3 : Hid (k + 1 ≤ maxLen) := by show _ ≤ _; unfold maxLen; omega
        have c4 : Hid ((k + 1) * 8 ≤ 140737488355328) := by show _ ≤ _; omega
        go_wp2_with (first | (at_builtin; refine wpList_append_lies _ rfl _ _ 47 rfl w.heap.size 3 i0 _ 1 8 Tryz.underlying47 hi hz0 hz1 hz2 rfl (by decide) _ _ _ rfl (OW.out.alloc _) ⟨wr.heap.size, 0, none⟩ 1 1 [.int .i64 (k : Int)] rfl rfl (one_int _ _) (one_cell _) (by decide) c3.out c4.out c6.out _ rfl ?_))
        intro g' cap' w1 hown hgrow hat hlt'
        rw [ints_app, ← firstN_succ] at hown
        have BW1 : Hid (Below w.heap.size w w1) := (BW.out.alloc c5.out _).grown hgrow c6.out fun b hb => (OW.out.lt b hb).1
        have OW1 : Hid _ := hown
        clear hown hgrow hat hlt'
        go_wp2
        go_roundw
        case rel => exact ⟨k + 1, by omega, by go_num, OW1.out, BW1.out⟩
        case measure => simp [intOf]; omega
      · have hkn : k = n := by omega
        subst hkn
        obtain ⟨g, cap, rfl⟩ := Go.Joins.ownsRow_form OW.out (by omega)
        have gb : Hid (w.heap.size ≤ g) := (OW.out.lt g rfl).1
        go_wp2
        go_loopw [11] (fun iv wr => ∃ i : Nat, i < k ∧ iv = .int .i64 i ∧ ∃ l : List Int, Hid (l.length = k) ∧ Hid (perm key i l = ROW key k) ∧ Hid (wr.ownsRow w.heap.size 3 1 (.slice (some ⟨g, 0, none⟩) k cap) k (ints l)) ∧ Hid (Below w.heap.size w wr)) (fun iv _ => (intOf iv).toNat)
        case atStart => exact ⟨k - 1, by omega, by go_num, _, firstN_len k, rfl, OW.out, BW.out⟩
        case round =>
         clear OW BW hi hz0 hz1 hz2
         obtain ⟨i, hi, rfl, l, LL, LI, OW, BW⟩ := hrel
         by_cases hlt2 : 1 ≤ i
         · obtain ⟨m, hm⟩ : ∃ m, m = MIX ((key + i) % 4294967296) := ⟨_, rfl⟩
           have mb := MIX_bd ((key + i) % 4294967296) (by omega) (by omega)
           rw [← hm] at mb
           obtain ⟨mb0, mb1⟩ := mb
           have M := hm.symm
           obtain ⟨j, hj⟩ : ∃ j, j = JJ key i := ⟨_, rfl⟩
           have hjk : j ≤ i := by rw [hj]; exact JJ_le key i
           have J1 : m % ((i : Int) + 1) = (j : Int) := by rw [hj, hm]; exact (JJ_eq key i).symm
           have J2 : m.tmod ((i : Int) + 1) = (j : Int) := by rw [Int.tmod_eq_emod_of_nonneg mb0]; exact J1
           have PS : Hid (perm key (i - 1) (swp l i j) = ROW key k) := by
            show _ = _
            rw [← LI.out, hj]
            obtain ⟨k', rfl⟩ : ∃ k', i = k' + 1 := ⟨i - 1, by omega⟩
            rfl
           have LN : Hid _ := LL.out
           obtain ⟨xi, hxi⟩ : ∃ x, x = l.getD i 0 := ⟨_, rfl⟩
           obtain ⟨xj, hxj⟩ : ∃ x, x = l.getD j 0 := ⟨_, rfl⟩
           have ci : wr.cell? ⟨g, i, none⟩ = some (.int .i64 xi) := by rw [OW.out.cellAt i (by omega), ints_at l i (by rw [LL.out]; omega), hxi]
           have cj : wr.cell? ⟨g, j, none⟩ = some (.int .i64 xj) := by rw [OW.out.cellAt j (by omega), ints_at l j (by rw [LL.out]; omega), hxj]
           have fi := OW.out.frozenAt i
           have fj := OW.out.frozenAt j
           have OW2 : Hid (((wr.setCell ⟨g, i, none⟩ (.int .i64 xj)).setCell ⟨g, j, none⟩ (.int .i64 xi)).ownsRow w.heap.size 3 1 (.slice (some ⟨g, 0, none⟩) k cap) k (ints (swp l i j))) := by
            have h1 := (OW.out.stored i (.int .i64 xj)).1
            have h2 := (h1.stored j (.int .i64 xi)).1
            rw [hxi, hxj, ints_swp] at h2
            rw [hxi, hxj]
            exact h2
           have jl2 : (j : Int) < (k : Int) := by omega
           have kl : (i : Int) < (k : Int) := by omega
           have HXI : Hid _ := hxi
           have HXJ : Hid _ := hxj
           have HJ : Hid _ := hj
           have HXX : Hid (j = i → xi = xj) := fun e => by rw [hxi, hxj, e]
           clear hxi hxj hj hm LI OW
           by_cases hjk2 : j = i
           · have e := HXX.out hjk2
             subst e
             subst hjk2
             clear HXI HXJ HXX
             go_wp2_with (first | (go_at_call 37; refine (rmix_any _ _ (by omega) (by omega)).mono ?_; rintro e w' ⟨rfl, hw'⟩; subst w'; rw [M]))
             go_roundw
             case rel => exact ⟨j - 1, by omega, by go_num, swp l j j, by show _ = _; rw [swp_len]; exact LN.out, PS.out, OW2.out, ((BW.out.setCell (p := ⟨g, _, none⟩) gb.out _).setCell (p := ⟨g, _, none⟩) gb.out _)⟩
             case measure => simp [intOf]; omega
           · have hjk3 : ¬ i = j := fun h => hjk2 h.symm
             go_wp2_with (first | (go_at_call 37; refine (rmix_any _ _ (by omega) (by omega)).mono ?_; rintro e w' ⟨rfl, hw'⟩; subst w'; rw [M]))
             go_roundw
             case rel => exact ⟨i - 1, by omega, by go_num, swp l i j, by show _ = _; rw [swp_len]; exact LN.out, PS.out, OW2.out, ((BW.out.setCell (p := ⟨g, _, none⟩) gb.out _).setCell (p := ⟨g, _, none⟩) gb.out _)⟩
             case measure => simp [intOf]; omega
         · have hk0 : i = 0 := by omega
           have R : Hid (l = ROW key k) := by show _ = _; rw [← LI.out, hk0]; rfl
           obtain ⟨x, hx⟩ : ∃ x, x = (ROW key k).getD p 0 := ⟨_, rfl⟩
           have cp : wr.cell? ⟨g, p, none⟩ = some (.int .i64 x) := by rw [OW.out.cellAt p (by omega), ints_at l p (by rw [LL.out]; omega), hx, R.out]
           have HX : Hid (PICK seed k place = x) := by show _ = _; rw [hx]; exact E.out
           clear hk0 R LI OW hx
           go_wp2
           go_ret
           exact ⟨ret_int HX.out.symm, BW.out⟩
   · have E : PICK seed samples place = 0 := PICK_out _ _ _ (by omega)
     have hb1 : inB samples 1 16 = true := inB_t h1
     rw [E]
     clear E
     go_enter Tryz.func74, Tryz.ntmps74
     go_wp2_with (first | (go_at_call 68; refine (rin_any _ _ _ _).mono ?_; rintro e w' ⟨rfl, hw'⟩; subst w'; rw [hb1]))
     go_ret
     exact ⟨rfl, Below.refl _ _⟩
 · have E : PICK seed samples place = 0 := PICK_out _ _ _ (by omega)
   have hb1 : inB samples 1 16 = false := inB_f h1
   rw [E]
   clear E
   go_enter Tryz.func74, Tryz.ntmps74
   go_wp2_with (first | (go_at_call 68; refine (rin_any _ _ _ _).mono ?_; rintro e w' ⟨rfl, hw'⟩; subst w'; rw [hb1]))
   go_ret
   exact ⟨rfl, Below.refl _ _⟩
end Go.Proofs.YtoihkljlekknkaaGreat
