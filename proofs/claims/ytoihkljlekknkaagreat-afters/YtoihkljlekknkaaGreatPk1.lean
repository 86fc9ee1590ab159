/-
  Mix, of the program and of the document, and 'is n from lo to hi', as they are walked. Conditions: the numbers are some that may be (0 to 2^32 - 1).
-/
import Derived.Test.YtoihkljlekknkaaGreatBits
import Derived.Test.YtoihkljlekknkaaGreatPkM
import Derived.OwnWalk
import Derived.Laws.OwnMore
import Derived.Below
import Derived.RegionTactic
namespace Go.Proofs.YtoihkljlekknkaaGreat
open Go.RowKit
set_option linter.unusedVariables false
set_option linter.unusedSimpArgs false
def inB (n lo hi : Int) : Bool := decide (lo ≤ n ∧ n ≤ hi)
theorem inB_t {n lo hi : Int} (h : lo ≤ n ∧ n ≤ hi) : inB n lo hi = true := by simpa [inB] using h
theorem inB_f {n lo hi : Int} (h : ¬ (lo ≤ n ∧ n ≤ hi)) : inB n lo hi = false := by simpa [inB] using h
set_option maxHeartbeats 400000 in
theorem within_any (n lo hi : Int) (w : World) :
 Calls Tryz.prog 49 #[.int .i64 n, .int .i64 lo, .int .i64 hi] w fun e w' => e = .returned (.bool (inB n lo hi)) ∧ w' = w := by
 by_cases h : lo ≤ n
 · go_enter Tryz.func49, Tryz.ntmps49
   go_wp2
   go_ret
   refine ⟨ret_bool ?_, rfl⟩
   unfold inB; rw [Bool.eq_iff_iff]; simp; omega
 · rw [inB_f (by omega)]
   go_enter Tryz.func49, Tryz.ntmps49
   go_wp2
   go_ret
   exact ⟨rfl, rfl⟩
set_option maxHeartbeats 400000 in
theorem rin_any (n lo hi : Int) (w : World) :
 Calls Tryz.prog 68 #[.int .i64 n, .int .i64 lo, .int .i64 hi] w fun e w' => e = .returned (.bool (inB n lo hi)) ∧ w' = w := by
 by_cases h : lo ≤ n
 · go_enter Tryz.func68, Tryz.ntmps68
   go_wp2
   go_ret
   refine ⟨ret_bool ?_, rfl⟩
   unfold inB; rw [Bool.eq_iff_iff]; simp; omega
 · rw [inB_f (by omega)]
   go_enter Tryz.func68, Tryz.ntmps68
   go_wp2
   go_ret
   exact ⟨rfl, rfl⟩
theorem u32_xor (a b : Int) (h0 : 0 ≤ a) (h1 : a < 4294967296) (h2 : 0 ≤ b) (h3 : b < 4294967296) : bits .xor .u32 a b = XR a b := by
 obtain ⟨a, rfl⟩ : ∃ x : Nat, a = x := ⟨a.toNat, by omega⟩
 obtain ⟨b, rfl⟩ : ∃ x : Nat, b = x := ⟨b.toNat, by omega⟩
 rw [u32_xor_nat a b (by omega) (by omega)]
 simp [XR]
theorem i64_xor (a b : Int) (h0 : 0 ≤ a) (h1 : a < 4294967296) (h2 : 0 ≤ b) (h3 : b < 4294967296) : bits .xor .i64 a b = XR a b := by
 obtain ⟨a, rfl⟩ : ∃ x : Nat, a = x := ⟨a.toNat, by omega⟩
 obtain ⟨b, rfl⟩ : ∃ x : Nat, b = x := ⟨b.toNat, by omega⟩
 have hx : a ^^^ b < 2 ^ 32 := Nat.xor_lt_two_pow (by omega) (by omega)
 show IntKind.i64.wrap ((BitVec.ofInt 64 (a : Int) ^^^ BitVec.ofInt 64 (b : Int)).toNat : Int) = _
 rw [BitVec.toNat_xor, ofInt_u64 a (by omega), ofInt_u64 b (by omega)]
 simp [IntKind.wrap, IntKind.bits, IntKind.signed, XR]
 omega
set_option maxHeartbeats 400000 in
theorem rxor_any (u v : Int) (w : World) (h0 : 0 ≤ u) (h1 : u < 4294967296) (h2 : 0 ≤ v) (h3 : v < 4294967296) :
 Calls Tryz.prog 70 #[.int .i64 u, .int .i64 v] w fun e w' => e = .returned (.int .i64 (XR u v)) ∧ w' = w := by
 have HE : Hid _ := i64_xor u v h0 h1 h2 h3
 go_enter Tryz.func70, Tryz.ntmps70
 go_wp2
 go_ret
 exact ⟨ret_int HE.out, rfl⟩
set_option maxHeartbeats 400000 in
theorem times_any (a b : Int) (w : World) (h0 : 0 ≤ a) (h1 : a < 4294967296) (h2 : 0 ≤ b) (h3 : b < 4294967296) :
 Calls Tryz.prog 38 #[.int .i64 a, .int .i64 b] w fun e w' => e = .returned (.int .i64 (TM a b)) ∧ w' = w := by
 have HE : Hid _ := times_eq a b h0 h1 h2 h3
 obtain ⟨p, hp⟩ : ∃ p, p = a / 65536 * b := ⟨_, rfl⟩
 obtain ⟨q, hq⟩ : ∃ q, q = a % 65536 * b := ⟨_, rfl⟩
 have p0 : 0 ≤ p := by rw [hp]; exact Int.mul_nonneg (by omega) h2
 have q0 : 0 ≤ q := by rw [hq]; exact Int.mul_nonneg (by omega) h2
 have p1 : p ≤ 65536 * 4294967296 := by rw [hp]; exact Int.mul_le_mul (by omega) (by omega) h2 (by omega)
 have q1 : q ≤ 65536 * 4294967296 := by rw [hq]; exact Int.mul_le_mul (by omega) (by omega) h2 (by omega)
 have HP : Hid _ := hp
 have HQ : Hid _ := hq
 have hp' := hp.symm
 have hq' := hq.symm
 clear hp hq
 go_enter Tryz.func38, Tryz.ntmps38
 go_wp2
 go_ret
 refine ⟨ret_int ?_, rfl⟩
 rw [← HE.out, ← HP.out, ← HQ.out]
set_option maxHeartbeats 400000 in
theorem rmix_any (x : Int) (w : World) (h0 : 0 ≤ x) (h1 : x < 4294967296) :
 Calls Tryz.prog 37 #[.int .i64 x] w fun e w' => e = .returned (.int .i64 (MIX x)) ∧ w' = w := by
 obtain ⟨a, ha⟩ : ∃ a, a = XR x (x / 65536) := ⟨_, rfl⟩
 have a1 := XR_bd x (x / 65536) h0 h1 (by omega) (by omega)
 obtain ⟨b, hb⟩ : ∃ b, b = TM a 2246822507 := ⟨_, rfl⟩
 have b1 := TM_bd a 2246822507
 obtain ⟨c, hc⟩ : ∃ c, c = XR b (b / 8192) := ⟨_, rfl⟩
 rw [← ha] at a1
 rw [← hb] at b1
 have c1 := XR_bd b (b / 8192) b1.1 b1.2 (by omega) (by omega)
 obtain ⟨d, hd⟩ : ∃ d, d = TM c 3266489909 := ⟨_, rfl⟩
 have d1 := TM_bd c 3266489909
 rw [← hc] at c1
 rw [← hd] at d1
 have HE : Hid (MIX x = XR d (d / 65536)) := by show MIX x = _; rw [hd, hc, hb, ha]; rfl
 obtain ⟨a10, a11⟩ := a1
 obtain ⟨b10, b11⟩ := b1
 obtain ⟨c10, c11⟩ := c1
 obtain ⟨d10, d11⟩ := d1
 have A := ha.symm
 have B := hb.symm
 have C := hc.symm
 have D := hd.symm
 clear ha hb hc hd
 go_enter Tryz.func37, Tryz.ntmps37
 go_wp2_with (first | (go_at_call 70; refine (rxor_any _ _ _ (by omega) (by omega) (by omega) (by omega)).mono ?_; rintro e w' ⟨rfl, rfl⟩; first | rw [A] | rw [C] | skip) | (go_at_call 38; refine (times_any _ _ _ (by omega) (by omega) (by omega) (by omega)).mono ?_; rintro e w' ⟨rfl, rfl⟩; first | rw [B] | rw [D]))
 go_ret
 exact ⟨ret_int HE.out.symm, rfl⟩
set_option maxHeartbeats 400000 in
theorem mix_any (x : Int) (w : World) (h0 : 0 ≤ x) (h1 : x < 4294967296) :
 Calls Tryz.prog 85 #[.int .u32 x] w fun e w' => e = .returned (.int .u32 (MIX x)) ∧ w' = w := by
 obtain ⟨a, ha⟩ : ∃ a, a = XR x (x / 65536) := ⟨_, rfl⟩
 have a1 := XR_bd x (x / 65536) h0 h1 (by omega) (by omega)
 obtain ⟨b, hb⟩ : ∃ b, b = TM a 2246822507 := ⟨_, rfl⟩
 have b1 := TM_bd a 2246822507
 obtain ⟨c, hc⟩ : ∃ c, c = XR b (b / 8192) := ⟨_, rfl⟩
 rw [← ha] at a1
 rw [← hb] at b1
 have c1 := XR_bd b (b / 8192) b1.1 b1.2 (by omega) (by omega)
 obtain ⟨d, hd⟩ : ∃ d, d = TM c 3266489909 := ⟨_, rfl⟩
 have d1 := TM_bd c 3266489909
 rw [← hc] at c1
 rw [← hd] at d1
 have HE : Hid (MIX x = XR d (d / 65536)) := by show MIX x = _; rw [hd, hc, hb, ha]; rfl
 have A : bits .xor .u32 x (x / 65536) = a := (u32_xor _ _ h0 h1 (by omega) (by omega)).trans ha.symm
 have B : a * 2246822507 % 4294967296 = b := hb.symm
 have C : bits .xor .u32 b (b / 8192) = c := (u32_xor _ _ b1.1 b1.2 (by omega) (by omega)).trans hc.symm
 have D : c * 3266489909 % 4294967296 = d := hd.symm
 have E : Hid (bits .xor .u32 d (d / 65536) = XR d (d / 65536)) := u32_xor _ _ d1.1 d1.2 (by omega) (by omega)
 clear ha hb hc hd
 go_enter Tryz.func85, Tryz.ntmps85
 go_wp2
 go_ret
 exact ⟨ret_int (E.out.trans HE.out.symm), rfl⟩
end Go.Proofs.YtoihkljlekknkaaGreat
/-
  The row of an epoch as the program makes it. Conditions: 1 to 16 samples, an epoch that is not below 0.
-/
namespace Go.Proofs.YtoihkljlekknkaaGreat
open Go.RowKit
set_option linter.unusedVariables false
set_option linter.unusedSimpArgs false
def ints (l : List Int) : List Value := l.map (Value.int .i64)
theorem ints_len (l : List Int) : (ints l).length = l.length := by simp [ints]
theorem ints_at (l : List Int) (j : Nat) (h : j < l.length) : (ints l)[j]? = some (.int .i64 (l.getD j 0)) := by
 simp [ints, List.getD_eq_getElem?_getD, List.getElem?_eq_getElem h]
theorem ints_set (l : List Int) (j : Nat) (x : Int) : (ints l).set j (.int .i64 x) = ints (l.set j x) := by simp [ints, List.map_set]
theorem ints_swp (l : List Int) (i j : Nat) : ((ints l).set i (.int .i64 (l.getD j 0))).set j (.int .i64 (l.getD i 0)) = ints (swp l i j) := by rw [ints_set, ints_set]; rfl
theorem Tryz.infoI : (Tryz.prog.info? 3).map (fun i => (i.zero, i.size, i.bytes)) = some (some (.int .i64 0), 1, 8) := by kernel_rfl
theorem ints_zero (n : Nat) : (madeCells #[Value.int IntKind.i64 0] n).toList = ints (List.replicate n 0) := by
 rw [toList_madeCells_one]
 simp [ints]
theorem firstN_of (l : List Int) (n : Nat) (hl : l.length = n) (h : ∀ i, i < n → l.getD i 0 = (i : Int)) : l = firstN n := by
 apply List.ext_getElem
 · rw [hl, firstN_len]
 · intro i h1 h2
   have := h i (by omega)
   rw [List.getD_eq_getElem?_getD, List.getElem?_eq_getElem h1] at this
   simpa [firstN] using this
theorem getD_set (l : List Int) (i j : Nat) (x : Int) : (l.set i x).getD j 0 = if i = j ∧ i < l.length then x else l.getD j 0 := by
 rw [List.getD_eq_getElem?_getD, List.getD_eq_getElem?_getD, List.getElem?_set]
 by_cases h : i = j
 · subst h
   by_cases h' : i < l.length
   · simp [h']
   · simp [h']
 · simp [h]
set_option maxHeartbeats 1000000 in
set_option maxRecDepth 100000 in
theorem row_any (seed ep : Int) (n : Nat) (w : World) (hs0 : 0 ≤ seed) (hs1 : seed < 4294967296) (hn0 : 1 ≤ n) (hn1 : n ≤ 16) (he0 : 0 ≤ ep) (he1 : ep ≤ 9223372036854775807) :
 Calls Tryz.prog 67 #[.int .u32 seed, .int .i64 n, .int .i64 ep] w fun e w' => e = .returned (.slice (some ⟨w.heap.size, 0, none⟩) n n) ∧ w'.ownsRow w.heap.size 3 1 (.slice (some ⟨w.heap.size, 0, none⟩) n n) n (ints (ROW (MIX ((seed + ep) % 4294967296)) n)) ∧ Below w.heap.size w w' := by
 obtain ⟨i0, hi, hz0, hz1, hz2⟩ := info_parts Tryz.infoI
 have HI : Hid _ := hi
 obtain ⟨key, hkey⟩ : ∃ k, k = MIX ((seed + ep) % 4294967296) := ⟨_, rfl⟩
 have kb := MIX_bd ((seed + ep) % 4294967296) (by omega) (by omega)
 rw [← hkey] at kb ⊢
 have KEY := hkey.symm
 clear hkey
 obtain ⟨kb0, kb1⟩ := kb
 go_enter Tryz.func67, Tryz.ntmps67
 go_wp2_with (first | (at_make; refine wpList_make_full _ rfl _ _ 47 rfl w.heap.size 3 i0 _ 1 Tryz.underlying47 hi hz0 hz1 _ _ _ _ n rfl rfl rfl rfl (by rw [hz2]; omega) (by unfold maxLen; omega) (Nat.le_refl _) ?_))
 intro w1 hown hgr
 rw [ints_zero] at hown
 have BW1 : Hid (Below w.heap.size w w1) := (Below.refl _ _).grown hgr (Nat.le_refl _) (by simp)
 have OW1 : Hid _ := hown
 clear hown hgr hi hz0 hz1 hz2 HI
 go_wp2
 go_loopw [16] (fun iv wr => ∃ k : Nat, k ≤ n ∧ iv = .int .i64 k ∧ ∃ l : List Int, Hid (l.length = n) ∧ Hid (∀ i, i < k → l.getD i 0 = (i : Int)) ∧ Hid (wr.ownsRow w.heap.size 3 1 (.slice (some ⟨w.heap.size, 0, none⟩) n n) n (ints l)) ∧ Hid (Below w.heap.size w wr)) (fun iv _ => n - (intOf iv).toNat)
 case atStart => exact ⟨0, by omega, rfl, _, by show _ = _; simp, fun i h => absurd h (by omega), OW1.out, BW1.out⟩
 case round =>
  obtain ⟨k, hk, rfl, l, LL, LI, OW, BW⟩ := hrel
  by_cases hlt : k < n
  · have f := OW.out.frozenAt k
    have kl : (k : Int) < (n : Int) := by omega
    obtain ⟨x0, c0⟩ : ∃ x, wr.cell? ⟨w.heap.size, k, none⟩ = some (.int .i64 x) := ⟨_, by rw [OW.out.cellAt k (by omega), ints_at l k (by rw [LL.out]; omega)]⟩
    go_wp2
    go_roundw
    case rel =>
     refine ⟨k + 1, by omega, by go_num, l.set k (k : Int), by show _ = _; rw [List.length_set]; exact LL.out, fun i hi => ?_, ?_, BW.out.setCell (p := ⟨w.heap.size, _, none⟩) (Nat.le_refl _) _⟩
     · rw [getD_set]
       by_cases e : k = i
       · rw [if_pos ⟨e, by rw [LL.out]; exact hlt⟩, e]
       · rw [if_neg (fun h => e h.1)]; exact LI.out i (by omega)
     · have := (OW.out.stored k (.int .i64 (k : Int))).1
       rw [ints_set] at this
       exact this
    case measure => simp [intOf]; omega
  · have hkn : k = n := by omega
    have R : Hid (l = firstN n) := firstN_of l n LL.out fun i hi => LI.out i (by omega)
    have OWR : Hid (wr.ownsRow w.heap.size 3 1 (.slice (some ⟨w.heap.size, 0, none⟩) n n) n (ints (firstN n))) := by show World.ownsRow _ _ _ _ _ _ _; rw [← R.out]; exact OW.out
    clear hkn R LL LI OW OW1 BW1
    go_wp2_with (first | (go_at_call 85; refine (mix_any _ _ (by omega) (by omega)).mono ?_; rintro e w' ⟨rfl, rfl⟩; rw [KEY]))
    go_loopw [10] (fun iv wr => ∃ k : Nat, k < n ∧ iv = .int .i64 k ∧ ∃ l : List Int, Hid (l.length = n) ∧ Hid (perm key k l = ROW key n) ∧ Hid (wr.ownsRow w.heap.size 3 1 (.slice (some ⟨w.heap.size, 0, none⟩) n n) n (ints l)) ∧ Hid (Below w.heap.size w wr)) (fun iv _ => (intOf iv).toNat)
    case atStart => exact ⟨n - 1, by omega, by go_num, _, firstN_len n, rfl, OWR.out, BW.out⟩
    case round =>
     clear OWR BW
     obtain ⟨k, hk, rfl, l, LL, LI, OW, BW⟩ := hrel
     by_cases hlt : 1 ≤ k
     · obtain ⟨m, hm⟩ : ∃ m, m = MIX ((key + k) % 4294967296) := ⟨_, rfl⟩
       have mb := MIX_bd ((key + k) % 4294967296) (by omega) (by omega)
       rw [← hm] at mb
       obtain ⟨mb0, mb1⟩ := mb
       have M := hm.symm
       obtain ⟨j, hj⟩ : ∃ j, j = JJ key k := ⟨_, rfl⟩
       have hjk : j ≤ k := by rw [hj]; exact JJ_le key k
       have J1 : m % ((k : Int) + 1) = (j : Int) := by rw [hj, hm]; exact (JJ_eq key k).symm
       have J2 : m.tmod ((k : Int) + 1) = (j : Int) := by rw [Int.tmod_eq_emod_of_nonneg mb0]; exact J1
       have hjn : j < n := by omega
       have PS : Hid (perm key (k - 1) (swp l k j) = ROW key n) := by
        show _ = _
        rw [← LI.out, hj]
        obtain ⟨k', rfl⟩ : ∃ k', k = k' + 1 := ⟨k - 1, by omega⟩
        rfl
       have LN : Hid _ := LL.out
       obtain ⟨xi, hxi⟩ : ∃ x, x = l.getD k 0 := ⟨_, rfl⟩
       obtain ⟨xj, hxj⟩ : ∃ x, x = l.getD j 0 := ⟨_, rfl⟩
       have ci : wr.cell? ⟨w.heap.size, k, none⟩ = some (.int .i64 xi) := by rw [OW.out.cellAt k (by omega), ints_at l k (by rw [LL.out]; omega), hxi]
       have cj : wr.cell? ⟨w.heap.size, j, none⟩ = some (.int .i64 xj) := by rw [OW.out.cellAt j (by omega), ints_at l j (by rw [LL.out]; omega), hxj]
       have fi := OW.out.frozenAt k
       have fj := OW.out.frozenAt j
       have OW2 : Hid (((wr.setCell ⟨w.heap.size, k, none⟩ (.int .i64 xj)).setCell ⟨w.heap.size, j, none⟩ (.int .i64 xi)).ownsRow w.heap.size 3 1 (.slice (some ⟨w.heap.size, 0, none⟩) n n) n (ints (swp l k j))) := by
        have h1 := (OW.out.stored k (.int .i64 xj)).1
        have h2 := (h1.stored j (.int .i64 xi)).1
        rw [hxi, hxj, ints_swp] at h2
        rw [hxi, hxj]
        exact h2
       have jl : (j : Int) < (n : Int) := by omega
       have kl : (k : Int) < (n : Int) := by omega
       have HXI : Hid _ := hxi
       have HXJ : Hid _ := hxj
       have HJ : Hid _ := hj
       have HXX : Hid (j = k → xi = xj) := fun e => by rw [hxi, hxj, e]
       clear hxi hxj hj hm LI OW
       by_cases hjk2 : j = k
       · have e := HXX.out hjk2
         subst e
         subst hjk2
         clear HXI HXJ HXX
         go_wp2_with (first | (go_at_call 85; refine (mix_any _ _ (by omega) (by omega)).mono ?_; rintro e w' ⟨rfl, rfl⟩; rw [M]))
         go_region
         go_wp2
         go_roundw
         case rel => exact ⟨j - 1, by omega, by go_num, swp l j j, by show _ = _; rw [swp_len]; exact LN.out, PS.out, OW2.out, ((BW.out.setCell (p := ⟨w.heap.size, _, none⟩) (Nat.le_refl _) _).setCell (p := ⟨w.heap.size, _, none⟩) (Nat.le_refl _) _).drew⟩
         case measure => simp [intOf]; omega
       · have hjk3 : ¬ k = j := fun h => hjk2 h.symm
         go_wp2_with (first | (go_at_call 85; refine (mix_any _ _ (by omega) (by omega)).mono ?_; rintro e w' ⟨rfl, rfl⟩; rw [M]))
         go_region
         go_wp2
         go_roundw
         case rel => exact ⟨k - 1, by omega, by go_num, swp l k j, by show _ = _; rw [swp_len]; exact LN.out, PS.out, OW2.out, ((BW.out.setCell (p := ⟨w.heap.size, _, none⟩) (Nat.le_refl _) _).setCell (p := ⟨w.heap.size, _, none⟩) (Nat.le_refl _) _).drew⟩
         case measure => simp [intOf]; omega
     · have hk0 : k = 0 := by omega
       have R : Hid (l = ROW key n) := by show _ = _; rw [← LI.out, hk0]; rfl
       have OWR : Hid (wr.ownsRow w.heap.size 3 1 (.slice (some ⟨w.heap.size, 0, none⟩) n n) n (ints (ROW key n))) := by show World.ownsRow _ _ _ _ _ _ _; rw [← R.out]; exact OW.out
       clear hk0 R LI OW
       go_wp2
       go_ret
       exact ⟨rfl, OWR.out, BW.out⟩
end Go.Proofs.YtoihkljlekknkaaGreat
