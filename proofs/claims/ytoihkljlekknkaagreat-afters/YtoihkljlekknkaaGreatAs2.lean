/-
  One sample's slopes, by the document. Conditions: the configuration is one; patterns; the rows are as long as they should be.
-/
import Derived.Test.YtoihkljlekknkaaGreatAd1
import Derived.Test.YtoihkljlekknkaaGreatAd6
namespace Go.Proofs.YtoihkljlekknkaaGreat
open Go.RowKit
open Go.Joins (cell_of_block unfrozen_of_block)
set_option linter.unusedVariables false
set_option linter.unusedSimpArgs false
theorem one_cell47 (w : World) (b : Nat) (hb : b = w.heap.size) (x : Value) : ∀ j u, [x][j]? = some u → (w.alloc (.cells #[x] 47)).cell? ((⟨b, 0, none⟩ : Addr).add j) = some u := new_cells w b hb [x] 47
theorem out_one {w : World} {b : Nat} {v : Value} {l : List Int} (h : OutI w b v l) : v.oneCell' = true := by
 obtain ⟨a, c, e, -⟩ := row_at h
 rw [e]; rfl
def GP (c : Cf) (par x y : List Int) (m : Nat) : Nat → List Int
 | 0 => List.replicate (sn c (m + 1)) 0
 | d + 1 => GR c par x y m d
theorem GP_len (c : Cf) (par x y : List Int) (m d : Nat) : (GP c par x y m d).length = sn c (m + 1) := by
 cases d with
 | zero => exact List.length_replicate
 | succ d => exact GR_len _ _ _ _ _ _
theorem GP_at (c : Cf) (par x y : List Int) (m q : Nat) (hq : q ≤ m) : GP c par x y m (m - q + 1) = SLO (ER c par x y m (m - q)) (AN c par x q) (sn c q) (wn c q) (GP c par x y m (m - q)) (wn c (q + 1)) := by
 obtain ⟨d, hd⟩ : ∃ d, d = m - q := ⟨_, rfl⟩
 have e : q = m - d := by omega
 have dm : d ≤ m := by omega
 rw [← hd, e]
 clear hd e hq q
 cases d with
 | zero => rfl
 | succ d =>
   show GR c par x y m (d + 1) = _
   rw [show m - (d + 1) + 1 = m - d by omega, show m - (d + 1) = m - d - 1 by omega]
   rfl
theorem ER_at (c : Cf) (par x y : List Int) (m q : Nat) (hq : q + 1 ≤ m) : ER c par x y m (m - q) = ERS c.bend (BLM par (ER c par x y m (m - (q + 1))) (sn c (q + 1)) (wn c (q + 1)) (wn c (q + 1 + 1))) (SM c par x q) (AN c par x (q + 1)) (wn c (q + 1)) := by
 obtain ⟨d, hd⟩ : ∃ d, d = m - (q + 1) := ⟨_, rfl⟩
 rw [show m - q = d + 1 by omega, ← hd]
 show ERS _ _ _ _ _ = _
 rw [show m - d = q + 1 by omega, show q + 1 - 1 = q by omega]
theorem ERS_map (b : Int) (par E S A : List Int) (f a ns : Nat) : ERS b (BLM par E f a ns) S A a = (List.range a).map fun k => SLP b (BL1 par E f a k ns) (S.getD k 0) (A.getD k 0) := by
 unfold ERS
 refine List.map_congr_left fun k hk => ?_
 have e : (BLM par E f a ns).getD k 0 = BL1 par E f a k ns := by
  unfold BLM
  rw [List.getD_eq_getElem?_getD, List.getElem?_map, List.getElem?_range (List.mem_range.1 hk)]; rfl
 rw [e]
theorem outV_one (w : World) (x : Value) (base : Nat) (hb : base ≤ w.heap.size) : OutV (w.alloc (.cells #[x] 47)) base (.slice (some ⟨w.heap.size, 0, none⟩) 1 1) [x] :=
 ⟨rfl, Or.inr ⟨w.heap.size, 1, #[x], rfl, hb, heap_alloc_new w _, Nat.le_refl _, by unfold maxLen; omega, rfl, rfl⟩⟩
set_option maxHeartbeats 16000000 in
set_option maxRecDepth 100000 in
theorem rslopes_any (c : Cf) (m : Nat) (hL : c.L = (m : Int) + 1) (m3 : m < 3) (wb : WB c) (one : ∀ k, k ≤ m + 1 → 1 ≤ wn c k) : SlopesC c m := by
 intro par x y vp vx vy b1 b2 b3 w op ox oy pp px py lp lx ly
 obtain ⟨X, hX⟩ : ∃ X, X = rcs c := ⟨_, rfl⟩
 obtain ⟨n, hn⟩ : ∃ z, z = sn c (m + 1) := ⟨_, rfl⟩
 have n60 : n ≤ 60 := by rw [hn]; exact sn_le wb (m + 1) (by omega)
 have IX : Hid ((Tryz.prog.info? 24).map (·.size) = some X.size) := by rw [hX]; exact infoC c
 have IXL : Hid ((Tryz.prog.info? 24).map (·.size) = some X.toList.length) := by rw [hX]; exact infoC c
 have xc : X[0]? = some (.int .i64 ((m : Int) + 1)) ∧ X[5]? = some (.int .i64 c.bend) ∧ (∀ i, i < 4 → X[1 + i]? = some (.int .i64 (wn c i : Int))) := by
  rw [hX, ← hL]
  exact ⟨rfl, rfl, fun i hi => by rw [rcs_wide c i hi, wn_eq wb i hi]⟩
 have XC : Hid _ := xc
 have SMc : Hid (∀ (q : Nat), q ≤ m → ∀ (va : Value) (U : World), Below w.heap.size w U → OutI U 0 va (AN c par x q) → Calls Tryz.prog 106 #[.agg X, vp, .int .i64 ((q : Int) + 1), va] U fun e w' => ∃ v, e = .returned v ∧ OutI w' U.heap.size v (SM c par x q) ∧ Below U.heap.size U w') := fun q hq va U hU hva => by
  rw [hX]
  have r := sn_room wb q m hq m3
  exact sums_any c wb q (wn c q) (wn c (q + 1)) (sn c q) (by omega) (wn_eq wb q (by omega)) (wn_eq wb (q + 1) (by omega)) (sn_eq wb q (by omega)) par (AN c par x q) vp va b1 0 U (owns_below op hU) hva pp (AN_pats c pp px q) (by rw [lp]; exact r) (AN_len c par x q (by rw [lx]; exact Nat.le_refl _)) (by rw [lp, ← hn]; omega) (by
   cases q with
   | zero => show x.length < _; rw [lx]; have := wn_le wb 0 (by omega); omega
   | succ q => rw [AN_succ, ANS_len]; have := wn_le wb (q + 1) (by omega); omega)
 have RS : Hid (∀ V, Calls Tryz.prog 36 #[.agg X] V fun e w' => e = .returned (.int .i64 (n : Int)) ∧ Below V.heap.size V w') := fun V => by
  have h := rsize_any c wb (by omega) V
  rw [show c.L.toNat + 1 = (m + 1) + 1 by omega, sn_eq wb (m + 1) (by omega), ← hn] at h
  rw [hX]; exact h
 have WTc : Hid (∀ (q j : Nat), q ≤ m → j ≤ 4 → ∀ U, Calls Tryz.prog 109 #[.agg X, .int .i64 ((q : Int) + 1), .int .i64 (j : Int), .int .i64 (-1)] U fun e w' => e = .returned (.int .i64 ((sn c q + j * (wn c q + 1) : Nat) : Int)) ∧ Below U.heap.size U w') := fun q j hq hj U => by
  have h := weight_any c wb (q + 1) (by omega) (by omega) (j : Int) (by omega) (-1) (by omega) U
  rw [sn_eq wb q (by omega), show q + 1 - 1 = q by omega, wn_eq wb q (by omega)] at h
  rw [hX, show ((sn c q + j * (wn c q + 1) : Nat) : Int) = (sn c q : Int) + (j : Int) * ((wn c q : Int) + 1) + 1 + -1 by rw [Int.natCast_add, Int.natCast_mul, Int.natCast_add, show ((1 : Nat) : Int) = 1 from rfl]; omega]
  exact h
 have WTi : Hid (∀ (q j i : Nat), q ≤ m → j ≤ 4 → i ≤ 4 → ∀ U, Calls Tryz.prog 109 #[.agg X, .int .i64 ((q : Int) + 1), .int .i64 (j : Int), .int .i64 (i : Int)] U fun e w' => e = .returned (.int .i64 ((sn c q + j * (wn c q + 1) + 1 + i : Nat) : Int)) ∧ Below U.heap.size U w') := fun q j i hq hj hi U => by
  have h := weight_any c wb (q + 1) (by omega) (by omega) (j : Int) (by omega) (i : Int) (by omega) U
  rw [sn_eq wb q (by omega), show q + 1 - 1 = q by omega, wn_eq wb q (by omega)] at h
  rw [hX, show ((sn c q + j * (wn c q + 1) + 1 + i : Nat) : Int) = (sn c q : Int) + (j : Int) * ((wn c q : Int) + 1) + 1 + (i : Int) by simp only [Int.natCast_add, Int.natCast_mul, show ((1 : Nat) : Int) = 1 from rfl]]
  exact h
 have WRc : Hid (∀ (v : Value) (U : World), OutI U 0 v (SM c par x m) → OutI U b3 vy y → Calls Tryz.prog 108 #[.agg X, v, vy] U fun e w' => ∃ v, e = .returned v ∧ OutI w' U.heap.size v (ER c par x y m 0) ∧ Below U.heap.size U w') := fun v U h1 h2 => by
  have l := SM_len c par x m
  have o1 := one (m + 1) (by omega)
  have o4 := wn_le wb (m + 1) (by omega)
  rw [hX]
  exact wrong_any c (SM c par x m) y v vy 0 b3 U h1 h2 (SM_pats c pp x m) py (by omega) (by omega) (by omega) (by omega)
 obtain ⟨ax, cx, hvx, -⟩ := row_at ox
 subst hvx
 have ox0 : OutI w 0 (.slice ax x.length cx) x := out_zero ox
 obtain ⟨W0, hW0, b0, bel, hws⟩ := one_block w X 24
 obtain ⟨Bc, hBc⟩ : ∃ B, B = w.heap.size := ⟨_, rfl⟩
 obtain ⟨W1, hW1⟩ : ∃ U, U = W0.alloc (.cells #[.slice ax x.length cx] 47) := ⟨_, rfl⟩
 obtain ⟨W2, hW2⟩ : ∃ U, U = W1.alloc (.cells #[.slice none 0 0] 47) := ⟨_, rfl⟩
 obtain ⟨base, hbase⟩ : ∃ z, z = W0.heap.size := ⟨_, rfl⟩
 obtain ⟨A0, hA0⟩ : ∃ z, z = W0.heap.size := ⟨_, rfl⟩
 obtain ⟨S0, hS0⟩ : ∃ z, z = W1.heap.size := ⟨_, rfl⟩
 have z1 : W1.heap.size = W0.heap.size + 1 := by rw [hW1]; simp
 have a1 : Below W0.heap.size W0 W1 := by rw [hW1]; exact (Below.refl _ _).alloc (Nat.le_refl _) _
 have a2 : Below W1.heap.size W1 W2 := by rw [hW2]; exact (Below.refl _ _).alloc (Nat.le_refl _) _
 have bW2 : Below w.heap.size w W2 := (bel.trans (a1.mono bel.size)).trans (a2.mono (Nat.le_trans bel.size a1.size))
 have I0 : Hid (SlA c par x m base 0 0 (.slice (some ⟨A0, 0, none⟩) 1 1) (.slice (some ⟨S0, 0, none⟩) 1 1) (fun _ => .slice ax x.length cx) (fun _ => .slice none 0 0) W2) := by
  have o1 : OutV W1 base (.slice (some ⟨A0, 0, none⟩) 1 1) [.slice ax x.length cx] := by rw [hW1, hA0]; exact outV_one W0 _ base (by omega)
  refine ⟨owns_below o1 a2, ?_, fun k h1 h2 => ?_, fun i h1 h2 => ?_, fun i hi => absurd hi (by omega), by have := a2.size; omega⟩
  · rw [hW2, hS0]; exact outV_one W1 _ base (by omega)
  · have e1 : A0 = k := by simpa [Value.ownBlock] using h1
    have e2 : S0 = k := by simpa [Value.ownBlock] using h2
    omega
  · have e : i = 0 := by omega
    subst e; exact owns_below ox0 bW2
 have C0 : Hid (W2.heap[Bc]? = some (.cells X 24 (0, 0))) := by
  have h1 := (a1.block _ (lt_of_heap b0)).trans b0
  rw [hBc]; exact (a2.block _ (lt_of_heap h1)).trans h1
 have BE : Hid (Below w.heap.size w W2) := bW2
 have HW0 : Hid _ := hW0
 have HW1 : Hid _ := hW1
 have HW2 : Hid _ := hW2
 have HA0 : Hid (A0 = w.heap.size + 1) := by show _ = _; omega
 have HS0 : Hid (S0 = w.heap.size + 1 + 1) := by show _ = _; omega
 have HBc : Hid _ := hBc
 have WBs : Hid (w.heap.size ≤ base ∧ Bc < base) := by show _ ∧ _; omega
 obtain ⟨j0, ji, jz0, jz1, jz2⟩ := info_three Tryz.infoI
 have INF : Hid (_ ∧ _ ∧ _ ∧ _) := ⟨ji, jz0, jz1, jz2⟩
 obtain ⟨k0, ki, kz0, kz1, kz2⟩ := info_three Tryz.infoV
 have INV : Hid (_ ∧ _ ∧ _ ∧ _) := ⟨ki, kz0, kz1, kz2⟩
 have HWB : Hid _ := wb
 have HPP : Hid _ := pp
 have HPX : Hid _ := px
 have HPY : Hid _ := py
 have HOP : Hid _ := op
 have HOY : Hid _ := oy
 have HLP : Hid _ := lp
 have HLX : Hid _ := lx
 have HLY : Hid _ := ly
 have HONE : Hid _ := one
 have HX : Hid _ := hX
 have HNN : Hid _ := hn
 rw [← hX]
 clear hX hn xc hW0 b0 bel hws hBc hW1 hW2 hbase hA0 hS0 z1 a1 a2 bW2 ji jz0 jz1 jz2 ki kz0 kz1 kz2 wb pp px py op oy lp lx ly one ox ox0 hL
 go_enter Tryz.func76, Tryz.ntmps76
 go_upto_region 3 with fail
 rw [show w.alloc (.cells X 24) = W0 from HW0.out]
 rw [← HW1.out, ← HW2.out]
 rw [← HS0.out, ← HA0.out, ← HBc.out]
 clear HW0 HW1 HW2 HS0 HA0 HBc
 go_wp2
 go_loopw [9, 10, 11] (fun av sv kv wr => ∃ (j : Nat) (vA vS : Nat → Value), j ≤ m + 1 ∧ kv = .int .i64 ((j : Int) + 1) ∧ Hid (SlA c par x m base j j av sv vA vS wr) ∧ Hid (wr.heap[Bc]? = some (.cells X 24 (0, 0))) ∧ Hid (Below w.heap.size w wr)) (fun _ _ kv _ => (m + 2) - (intOf kv).toNat)
 case atStart => exact ⟨0, _, _, by omega, rfl, I0.out, C0.out, BE.out⟩
 case round =>
  clear I0 C0 BE
  obtain ⟨j, vA, vS, hj, rfl, HI, HC, BW⟩ := hrel
  have l0 : wr.cell? ⟨Bc, 0, none⟩ = some (.int .i64 ((m : Int) + 1)) := (cell_of_block HC.out 0).trans XC.out.1
  obtain ⟨aa, ca, hav, hac⟩ := rowV_at HI.out.oA
  obtain ⟨as_, cs, hsv, hsc⟩ := rowV_at HI.out.oS
  simp only [List.length_map, List.length_range, List.length_cons] at hav hac hsv hsc
  obtain ⟨ga, rfl, gal, gac⟩ := hac (by omega)
  obtain ⟨gs, rfl, gsl, gsc⟩ := hsc (by omega)
  subst hav hsv
  by_cases hlt : j < m + 1
  · have SM1 : Hid (∀ (U : World), Below w.heap.size w U → OutI U 0 (vA j) (AN c par x j) → Calls Tryz.prog 106 #[.agg X, vp, .int .i64 ((j : Int) + 1), vA j] U fun e w' => ∃ v, e = .returned v ∧ OutI w' U.heap.size v (SM c par x j) ∧ Below U.heap.size U w') := fun U h1 h2 => SMc.out j (by omega) (vA j) U h1 h2
    have KS6 : Hid (∀ U, Below wr.heap.size wr U → U.rangeAt Bc 0 X.toList ∧ U.cell? ⟨ga, j, none⟩ = some (vA j)) := fun U h => ⟨rng ((h.block _ (lt_of_heap HC.out)).trans HC.out), (h.cell (p := ⟨ga, j, none⟩) gal).trans ((gac j (by omega)).trans (by rw [List.getElem?_map, List.getElem?_range (by omega)]; rfl))⟩
    have s6 := KS6.out wr (Below.refl _ _)
    have VJ : Hid (∀ U, Below wr.heap.size wr U → OutI U 0 (vA j) (AN c par x j)) := fun U h => owns_below (HI.out.iA j (Nat.le_refl _) (by omega)) h
    obtain ⟨vj, hvj⟩ : ∃ z, z = vA j := ⟨_, rfl⟩
    rw [← hvj] at SM1 KS6 s6 VJ
    have wr1 : IntKind.i64.wrap ((j : Int) + 1 - 1) = (j : Int) := by rw [IntKind.wrap_i64]; omega
    have wr2 : IntKind.i64.wrap (j : Int) = (j : Int) := by rw [IntKind.wrap_i64]; omega
    have jl : (j : Int) < (j : Int) + 1 := by omega
    have j0' : (0 : Int) ≤ (j : Int) := by omega
    have jm : (j : Int) + 1 ≤ (m : Int) + 1 := by omega
    clear hvj gac gsc hac hsc
    go_upto_region 6 with fail
    refine wp_region_held_drew (S := fun w' => w'.rangeAt Bc 0 X.toList ∧ w'.cell? ⟨ga, j, none⟩ = some vj) (by kernel_rfl) s6 (fun hS => ?_)
    refine wpAnyH_take (i := 0) (oi := ⟨some 35, .load 24 (.tmp 4), 24, "train.go:269", #[], none⟩) (v := .agg X.toList.toArray) rfl (by kernel_rfl) (by kernel_rfl) (by kernel_rfl) (fun _ _ _ h => h) (yieldsIf_load_mid (by rfl) 24 _ rfl Bc 0 rfl X.toList _ (fun w h => h.1) Tryz.underlying24 rfl IXL.out) hS ?_
    rw [Array.toArray_toList]
    try go_frame
    refine wpAnyH_take (i := 1) (oi := ⟨some 36, .move (.tmp 1), 47, "train.go:269", #[], none⟩) (v := ?_) rfl (by kernel_rfl) (by kernel_rfl) (by kernel_rfl) (fun _ _ _ h => h) (Or.inl ⟨by kernel_rfl, ?_⟩) hS ?_
    rotate_left
    · intro w hSw; (try dsimp only at hSw); go_simp; (try with_reducible rfl)
    try go_frame
    refine wpAnyH_take (i := 2) (oi := ⟨some 37, .move (.tmp 11), 3, "train.go:269", #[], none⟩) (v := ?_) rfl (by kernel_rfl) (by kernel_rfl) (by kernel_rfl) (fun _ _ _ h => h) (Or.inl ⟨by kernel_rfl, ?_⟩) hS ?_
    rotate_left
    · intro w hSw; (try dsimp only at hSw); go_simp; (try with_reducible rfl)
    try go_frame
    refine wpAnyH_take (i := 3) (oi := ⟨some 38, .move (.tmp 9), 128, "train.go:269", #[], none⟩) (v := ?_) rfl (by kernel_rfl) (by kernel_rfl) (by kernel_rfl) (fun _ _ _ h => h) (Or.inl ⟨by kernel_rfl, ?_⟩) hS ?_
    rotate_left
    · intro w hSw; (try dsimp only at hSw); go_simp; (try with_reducible rfl)
    try go_frame
    refine wpAnyH_take (i := 4) (oi := ⟨some 39, .move (.tmp 11), 3, "train.go:269", #[], none⟩) (v := ?_) rfl (by kernel_rfl) (by kernel_rfl) (by kernel_rfl) (fun _ _ _ h => h) (Or.inl ⟨by kernel_rfl, ?_⟩) hS ?_
    rotate_left
    · intro w hSw; (try dsimp only at hSw); go_simp; (try with_reducible rfl)
    try go_frame
    refine wpAnyH_take (i := 5) (oi := ⟨some 40, .binOp .sub 3 (.tmp 39) (.const (.int .i64 1)) 3, 3, "train.go:269", #[⟨4, .data⟩], none⟩) (v := ?_) rfl (by kernel_rfl) (by kernel_rfl) (by kernel_rfl) (fun _ _ _ h => h) (Or.inl ⟨by kernel_rfl, ?_⟩) hS ?_
    rotate_left
    · intro w hSw; (try dsimp only at hSw); go_simp; (try with_reducible rfl)
    try go_frame
    refine wpAnyH_take (i := 6) (oi := ⟨some 41, .indexAddr 128 (.tmp 38) (.tmp 40), 0, "train.go:269", #[⟨3, .data⟩, ⟨5, .data⟩], none⟩) (v := ?_) rfl (by kernel_rfl) (by kernel_rfl) (by kernel_rfl) (fun _ _ _ h => h) (Or.inl ⟨by kernel_rfl, ?_⟩) hS ?_
    rotate_left
    · intro w hSw; (try dsimp only at hSw); go_simp; (try with_reducible rfl)
    try go_frame
    refine wpAnyH_take (i := 7) (oi := ⟨some 42, .load 47 (.tmp 41), 47, "train.go:269", #[⟨6, .data⟩], none⟩) (v := ?_) rfl (by kernel_rfl) (by kernel_rfl) (by kernel_rfl) (fun _ _ _ h => h) (Or.inl ⟨by kernel_rfl, ?_⟩) hS ?_
    rotate_left
    · intro w hSw; (try dsimp only at hSw); go_simp; (try with_reducible rfl)
    try go_frame
    refine wpAnyH_ready (rs := [8]) (by kernel_rfl) (by simp) ?_
    refine AllReadyH.cons (o := ⟨some 43, .call { callee := .value (.func 106), args := #[.tmp 35, .tmp 36, .tmp 37, .tmp 42], argTypes := #[24, 47, 3, 47] }, 47, "train.go:269", #[⟨0, .data⟩, ⟨1, .data⟩, ⟨2, .data⟩, ⟨7, .data⟩], none⟩) rfl (fun K hK => ?_) AllReadyH.nil
    go_simp
    refine (SM1.out _ (BW.out.drew) (VJ.out _ ((Below.refl _ _).drew))).mono ?_
    rintro e w5 ⟨vs, rfl, os, b5⟩
    have B5 : Hid (Below wr.heap.size wr w5) := ((Below.refl _ _).drew).trans b5
    have OS : Hid (OutI w5 wr.heap.size vs (SM c par x j)) := os
    clear b5 os hS
    go_wp2_with fail
    refine hK.out _ _ (KS6.out _ B5.out) (fun hS => ?_)
    try go_frame
    clear hK K
    refine wpAnyH_take (i := 9) (oi := ⟨some 12, .assign (.tmp 43), 47, "train.go:269", #[⟨8, .data⟩, ⟨8, .chain⟩, ⟨0, .phase⟩, ⟨1, .phase⟩, ⟨2, .phase⟩, ⟨3, .phase⟩, ⟨4, .phase⟩, ⟨5, .phase⟩, ⟨6, .phase⟩, ⟨7, .phase⟩, ⟨8, .phase⟩], none⟩) (v := ?_) rfl (by kernel_rfl) (by kernel_rfl) (by kernel_rfl) (fun _ _ _ h => h) (Or.inl ⟨by kernel_rfl, ?_⟩) hS ?_
    rotate_left
    · intro w hSw; (try dsimp only at hSw); go_simp; (try with_reducible rfl)
    try go_frame
    refine wpAnyH_done (by kernel_rfl) ?_ _
    clear hS s6 wr1 wr2 jl
    obtain ⟨sa, sc, hvs, hscells⟩ := row_at OS.out
    rw [SM_len] at hvs hscells
    have HSC : Hid _ := hscells
    subst hvs
    have I5 : Hid (SlA c par x m base j j (.slice (some ⟨ga, 0, none⟩) (j + 1) ca) (.slice (some ⟨gs, 0, none⟩) (j + 1) cs) vA vS (w5.alloc (.cells #[.slice sa (wn c (j + 1)) sc] 47))) := (HI.out.below B5.out).below ((Below.refl _ _).alloc (Nat.le_refl _) _)
    have O5 : Hid (OutI (w5.alloc (.cells #[.slice sa (wn c (j + 1)) sc] 47)) 0 (.slice sa (wn c (j + 1)) sc) (SM c par x j)) := out_zero (owns_below OS.out ((Below.refl _ _).alloc (Nat.le_refl _) _))
    have BW5 : Hid (Below w.heap.size w (w5.alloc (.cells #[.slice sa (wn c (j + 1)) sc] 47))) := (BW.out.trans (B5.out.mono BW.out.size)).alloc (Nat.le_trans BW.out.size B5.out.size) _
    have C5 : Hid (w5.heap[Bc]? = some (.cells X 24 (0, 0))) := (B5.out.block _ (lt_of_heap HC.out)).trans HC.out
    have ln : (.slice none 0 0 :: (List.range j).map vS).length = j + 1 := by simp
    clear hscells KS6 VJ SM1
    go_upto_region 8 with (first
     | (at_builtin; refine wpList_append_lies _ rfl _ _ 128 rfl base 47 k0 _ 1 24 Tryz.under128 INV.out.1 INV.out.2.1 INV.out.2.2.1 INV.out.2.2.2 rfl (by decide) _ _ _ rfl (by have h := I5.out.oS; unfold OutV at h; rw [ln] at h; exact h) ⟨w5.heap.size, 0, none⟩ 1 1 [.slice sa (wn c (j + 1)) sc] rfl rfl (one_cell47 _ _ rfl _) (one_c _ rfl) (by decide) (by unfold maxLen; omega) (by omega) I5.out.bs _ rfl ?_
        intro g2 cap2 w6 hown hgrow hat hlt2
        have I6 : Hid (SlA c par x m base j (j + 1) (.slice (some ⟨ga, 0, none⟩) (j + 1) ca) (.slice (some ⟨g2, 0, none⟩) (j + 1 + 1) cap2) vA (fun i => if i = j then .slice sa (wn c (j + 1)) sc else vS i) w6) := I5.out.appS O5.out (by show World.ownsRow _ _ _ _ _ _ _; rw [List.length_append, ln]; exact hown) hgrow hat
        have B6 : Hid (Below w.heap.size w w6) := BW5.out.grown hgrow BW5.out.size (fun k hk => by have h1 := (World.ownsRow.lt I5.out.oS k hk).1; have h2 := WBs.out.1; omega)
        have C6 : Hid (w6.heap[Bc]? = some (.cells X 24 (0, 0))) := by
         rw [hgrow.block Bc (by have := lt_of_heap C5.out; simp; omega) (fun q => by have h1 := (World.ownsRow.lt I5.out.oS Bc q.symm).1; have h2 := WBs.out.2; omega), Below.heap_alloc _ _ _ (lt_of_heap C5.out)]
         exact C5.out
        clear hown hgrow hat hlt2))
    obtain ⟨ws, hws⟩ : ∃ z, z = wn c (j + 1) := ⟨_, rfl⟩
    have ws4 : ws ≤ 4 := by rw [hws]; exact wn_le HWB.out (j + 1) (by omega)
    have ws1 : 1 ≤ ws := by rw [hws]; exact HONE.out (j + 1) (by omega)
    have SL : Hid ((SM c par x j).length = ws) := by show _ = _; rw [hws]; exact SM_len _ _ _ _
    have SP : Hid (pats (SM c par x j)) := SM_pats c HPP.out x j
    have ANe : Hid (j + 1 ≤ m → AN c par x (j + 1) = (List.range ws).map (fun k => BNT c.bend ((SM c par x j).getD k 0))) := fun _ => by rw [AN_succ, hws]; rfl
    have O6 : OutI w6 0 (.slice sa (wn c (j + 1)) sc) (SM c par x j) := by have h := I6.out.iS j (by omega); rw [if_pos rfl] at h; exact h
    rw [← hws] at I6 O6 ⊢
    obtain ⟨sa', sc', e1, hcl⟩ := row_at O6
    rw [SL.out] at e1 hcl
    obtain ⟨gq, e2, gql, gqc⟩ := hcl (by omega)
    have e3 : sa = some ⟨gq, 0, none⟩ := by rw [← e2]; simpa using congrArg (fun v => match v with | .slice a _ _ => a | _ => none) e1
    subst e3
    have QC : Hid (gq < w6.heap.size ∧ ∀ i, i < ws → w6.cell? ⟨gq, i, none⟩ = some (.int .i64 ((SM c par x j).getD i 0))) := ⟨gql, gqc⟩
    have JM : Hid (j ≤ m) := by show _ ≤ _; omega
    clear hws e1 e2 hcl gql gqc O6 OS I5 O5 BW5 C5 HSC ln BW HC HI B5
    by_cases hjm : j < m
    · obtain ⟨F, hF⟩ : ∃ F : Nat → Int, F = fun k => BNT c.bend ((SM c par x j).getD k 0) := ⟨_, rfl⟩
      have FE : Hid (∀ k, F k = BNT c.bend ((SM c par x j).getD k 0)) := fun k => by rw [hF]
      have HJ : Hid _ := hjm
      have RF : Hid (j + 1 ≤ m → AN c par x (j + 1) = (List.range ws).map F) := fun h => by rw [hF]; exact ANe.out h
      clear hF
      go_wp2
      go_loopw [13, 14] (fun tv iv wz => ∃ i : Nat, i ≤ ws ∧ iv = .int .i64 i ∧ Hid (OutI wz w6.heap.size tv ((List.range i).map F)) ∧ Hid (Below w6.heap.size w6 wz)) (fun _ iv _ => ws - (intOf iv).toNat)
      case atStart => exact ⟨0, by omega, rfl, World.ownsRow_nil _ _ _ _, Below.refl _ _⟩
      case round =>
       obtain ⟨i, hi, rfl, OZ, BZ⟩ := hrel
       have L0' : wr.cell? ⟨Bc, 0, none⟩ = some (.int .i64 ((m : Int) + 1)) := (cell_of_block ((BZ.out.block _ (lt_of_heap C6.out)).trans C6.out) 0).trans XC.out.1
       by_cases hil : i < ws
       · have si : wr.cell? ⟨gq, i, none⟩ = some (.int .i64 ((SM c par x j).getD i 0)) := (BZ.out.cell (p := ⟨gq, i, none⟩) QC.out.1).trans (QC.out.2 i hil)
         have sb := pats_at SP.out i
         have fe : Hid _ := FE.out i
         obtain ⟨sv0, hsv0⟩ : ∃ z, z = (SM c par x j).getD i 0 := ⟨_, rfl⟩
         rw [← hsv0] at si sb fe
         obtain ⟨fv, hfv⟩ : ∃ z, z = BNT c.bend sv0 := ⟨_, rfl⟩
         have BNc : Hid (∀ U, Calls Tryz.prog 107 #[.int .i64 c.bend, .int .i64 sv0] U fun e w' => e = .returned (.int .i64 fv) ∧ Below U.heap.size U w') := fun U => by rw [hfv]; exact rbent_any c.bend sv0 U sb.1 sb.2
         have b5 : wr.cell? ⟨Bc, 5, none⟩ = some (.int .i64 c.bend) := (cell_of_block ((BZ.out.block _ (lt_of_heap C6.out)).trans C6.out) 5).trans XC.out.2.1
         have jlm : (j : Int) + 1 < (m : Int) + 1 := by omega
         have SU : Hid ((List.range (i + 1)).map F = (List.range i).map F ++ [fv]) := by show _ = _; rw [List.range_succ, List.map_append, hfv, ← fe.out]; rfl
         have BWz : Hid (Below w.heap.size w wr) := B6.out.trans (BZ.out.mono B6.out.size)
         obtain ⟨LS, hLS⟩ : ∃ z, z = (List.range i).map F := ⟨_, rfl⟩
         have LL : LS.length = i := by rw [hLS]; simp
         rw [← hLS] at OZ SU
         obtain ⟨ta, tc, htv, -⟩ := row_at OZ.out
         subst htv
         have ls3 : Hid (LS.length + 1 ≤ maxLen) := by show _ ≤ _; unfold maxLen; omega
         have ls4 : Hid ((LS.length + 1) * 8 ≤ 140737488355328) := by show _ ≤ _; omega
         have il : (i : Int) < (ws : Int) := by omega
         have i0 : (0 : Int) ≤ (i : Int) := by omega
         have HFV : Hid _ := hfv
         clear hfv hsv0 hLS LL sb

         go_wp2_with (first
          | (go_at_call 107; refine (BNc.out _).mono ?_; rintro e x1 ⟨rfl, c1⟩
             have X1 : Hid (Below w6.heap.size w6 x1) := BZ.out.trans (c1.mono BZ.out.size)
             have OX : Hid _ := owns_below OZ.out c1
             have B1 : Hid _ := BWz.out.trans (c1.mono BWz.out.size)
             clear c1)
          | (at_builtin; refine wpList_append_lies _ rfl _ _ 47 rfl w6.heap.size 3 j0 _ 1 8 Tryz.underlying47 INF.out.1 INF.out.2.1 INF.out.2.2.1 INF.out.2.2.2 rfl (by decide) _ _ _ rfl (World.ownsRow.alloc OX.out _) ⟨x1.heap.size, 0, none⟩ 1 1 [.int .i64 fv] rfl rfl (one_cell3 _ _ rfl _) (one_c _ rfl) (by decide) ls3.out ls4.out (Nat.le_trans X1.out.size (by simp)) _ rfl ?_
             intro g3 cap3 x5 hown hgrow hat hlt2
             have O5 : Hid (OutI x5 w6.heap.size (.slice (some ⟨g3, 0, none⟩) (LS.length + 1) cap3) (LS ++ [fv])) := by
              show World.ownsRow _ _ _ _ _ _ _
              rw [← ints_app, List.length_append]; exact hown
             have E5 : Hid (Below w6.heap.size w6 x5) := (X1.out.alloc X1.out.size _).grown hgrow (Nat.le_trans X1.out.size (by simp)) fun b hb => (World.ownsRow.lt OX.out b hb).1
             clear hown hgrow hat hlt2))
         go_roundw
         case rel => exact ⟨i + 1, by omega, by go_num, by rw [SU.out]; exact O5.out, E5.out⟩
         case measure => simp [intOf]; omega
       · have hie : ws = i := by omega
         subst hie
         obtain ⟨ta, tc, htv, -⟩ := row_at OZ.out
         rw [show ((List.range ws).map F).length = ws by simp] at htv
         subst htv
         have BWz : Hid (Below w.heap.size w wr) := B6.out.trans (BZ.out.mono B6.out.size)
         have I7 : Hid (SlA c par x m base j (j + 1) (.slice (some ⟨ga, 0, none⟩) (j + 1) ca) (.slice (some ⟨g2, 0, none⟩) (j + 1 + 1) cap2) vA (fun i => if i = j then .slice (some ⟨gq, 0, none⟩) ws sc else vS i) (wr.alloc (.cells #[.slice ta ws tc] 47))) := (I6.out.below BZ.out).below ((Below.refl _ _).alloc (Nat.le_refl _) _)
         have O7 : Hid (j + 1 ≤ m → OutI (wr.alloc (.cells #[.slice ta ws tc] 47)) 0 (.slice ta ws tc) (AN c par x (j + 1))) := fun h => by
          rw [RF.out h]; exact out_zero (owns_below OZ.out ((Below.refl _ _).alloc (Nat.le_refl _) _))
         have C7 : Hid (wr.heap[Bc]? = some (.cells X 24 (0, 0))) := (BZ.out.block _ (lt_of_heap C6.out)).trans C6.out
         have BA : Hid (Below w.heap.size w (wr.alloc (.cells #[.slice ta ws tc] 47))) := BWz.out.alloc BWz.out.size _
         have ln2 : ((List.range (j + 1)).map vA).length = j + 1 := by simp
         go_wp2_with (first
          | (at_builtin; refine wpList_append_lies _ rfl _ _ 128 rfl base 47 k0 _ 1 24 Tryz.under128 INV.out.1 INV.out.2.1 INV.out.2.2.1 INV.out.2.2.2 rfl (by decide) _ _ _ rfl (by have h := I7.out.oA; unfold OutV at h; rw [ln2] at h; exact h) ⟨wr.heap.size, 0, none⟩ 1 1 [.slice ta ws tc] rfl rfl (one_cell47 _ _ rfl _) (one_c _ rfl) (by decide) (by unfold maxLen; omega) (by omega) I7.out.bs _ rfl ?_
             intro g4 cap4 x6 hown hgrow hat hlt2
             have I8 : Hid (SlA c par x m base (j + 1) (j + 1) (.slice (some ⟨g4, 0, none⟩) (j + 1 + 1) cap4) (.slice (some ⟨g2, 0, none⟩) (j + 1 + 1) cap2) (fun i => if i = j + 1 then .slice ta ws tc else vA i) (fun i => if i = j then .slice (some ⟨gq, 0, none⟩) ws sc else vS i) x6) := I7.out.appA O7.out (by show World.ownsRow _ _ _ _ _ _ _; rw [List.length_append, ln2]; exact hown) hgrow hat
             have B8 : Hid (Below w.heap.size w x6) := BA.out.grown hgrow BA.out.size (fun k hk => by have h1 := (World.ownsRow.lt I7.out.oA k hk).1; have h2 := WBs.out.1; omega)
             have C8 : Hid (x6.heap[Bc]? = some (.cells X 24 (0, 0))) := by
              rw [hgrow.block Bc (by have := lt_of_heap C7.out; simp; omega) (fun q => by have h1 := (World.ownsRow.lt I7.out.oA Bc q.symm).1; have h2 := WBs.out.2; omega), Below.heap_alloc _ _ _ (lt_of_heap C7.out)]
              exact C7.out
             clear hown hgrow hat hlt2))
         go_roundw
         case rel => exact ⟨j + 1, _, _, by omega, by go_num, I8.out, C8.out, B8.out⟩
         case measure => simp [intOf]; omega
    · obtain ⟨F, hF⟩ : ∃ F : Nat → Int, F = fun k => (SM c par x j).getD k 0 := ⟨_, rfl⟩
      have FE : Hid (∀ k, F k = (SM c par x j).getD k 0) := fun k => by rw [hF]
      have HJ : Hid _ := hjm
      have RF : Hid (j + 1 ≤ m → AN c par x (j + 1) = (List.range ws).map F) := fun h => by rw [hF]; omega
      clear hF
      go_wp2
      go_loopw [13, 14] (fun tv iv wz => ∃ i : Nat, i ≤ ws ∧ iv = .int .i64 i ∧ Hid (OutI wz w6.heap.size tv ((List.range i).map F)) ∧ Hid (Below w6.heap.size w6 wz)) (fun _ iv _ => ws - (intOf iv).toNat)
      case atStart => exact ⟨0, by omega, rfl, World.ownsRow_nil _ _ _ _, Below.refl _ _⟩
      case round =>
       obtain ⟨i, hi, rfl, OZ, BZ⟩ := hrel
       have L0' : wr.cell? ⟨Bc, 0, none⟩ = some (.int .i64 ((m : Int) + 1)) := (cell_of_block ((BZ.out.block _ (lt_of_heap C6.out)).trans C6.out) 0).trans XC.out.1
       by_cases hil : i < ws
       · have si : wr.cell? ⟨gq, i, none⟩ = some (.int .i64 ((SM c par x j).getD i 0)) := (BZ.out.cell (p := ⟨gq, i, none⟩) QC.out.1).trans (QC.out.2 i hil)
         have sb := pats_at SP.out i
         have fe : Hid _ := FE.out i
         obtain ⟨sv0, hsv0⟩ : ∃ z, z = (SM c par x j).getD i 0 := ⟨_, rfl⟩
         rw [← hsv0] at si sb fe
         obtain ⟨fv, hfv⟩ : ∃ z, z = sv0 := ⟨_, rfl⟩
         have jlm : ¬ ((j : Int) + 1 < (m : Int) + 1) := by omega
         have SU : Hid ((List.range (i + 1)).map F = (List.range i).map F ++ [fv]) := by show _ = _; rw [List.range_succ, List.map_append, hfv, ← fe.out]; rfl
         have BWz : Hid (Below w.heap.size w wr) := B6.out.trans (BZ.out.mono B6.out.size)
         obtain ⟨LS, hLS⟩ : ∃ z, z = (List.range i).map F := ⟨_, rfl⟩
         have LL : LS.length = i := by rw [hLS]; simp
         rw [← hLS] at OZ SU
         obtain ⟨ta, tc, htv, -⟩ := row_at OZ.out
         subst htv
         have ls3 : Hid (LS.length + 1 ≤ maxLen) := by show _ ≤ _; unfold maxLen; omega
         have ls4 : Hid ((LS.length + 1) * 8 ≤ 140737488355328) := by show _ ≤ _; omega
         have il : (i : Int) < (ws : Int) := by omega
         have i0 : (0 : Int) ≤ (i : Int) := by omega
         have HFV : Hid _ := hfv
         subst hfv
         clear hsv0 hLS LL sb
         go_wp2_with (first
          | (at_builtin; refine wpList_append_lies _ rfl _ _ 47 rfl w6.heap.size 3 j0 _ 1 8 Tryz.underlying47 INF.out.1 INF.out.2.1 INF.out.2.2.1 INF.out.2.2.2 rfl (by decide) _ _ _ rfl (World.ownsRow.alloc OZ.out _) ⟨wr.heap.size, 0, none⟩ 1 1 [.int .i64 fv] rfl rfl (one_cell3 _ _ rfl _) (one_c _ rfl) (by decide) ls3.out ls4.out (Nat.le_trans BZ.out.size (by simp)) _ rfl ?_
             intro g3 cap3 x5 hown hgrow hat hlt2
             have O5 : Hid (OutI x5 w6.heap.size (.slice (some ⟨g3, 0, none⟩) (LS.length + 1) cap3) (LS ++ [fv])) := by
              show World.ownsRow _ _ _ _ _ _ _
              rw [← ints_app, List.length_append]; exact hown
             have E5 : Hid (Below w6.heap.size w6 x5) := (BZ.out.alloc BZ.out.size _).grown hgrow (Nat.le_trans BZ.out.size (by simp)) fun b hb => (World.ownsRow.lt OZ.out b hb).1
             clear hown hgrow hat hlt2))
         go_roundw
         case rel => exact ⟨i + 1, by omega, by go_num, by rw [SU.out]; exact O5.out, E5.out⟩
         case measure => simp [intOf]; omega
       · have hie : ws = i := by omega
         subst hie
         obtain ⟨ta, tc, htv, -⟩ := row_at OZ.out
         rw [show ((List.range ws).map F).length = ws by simp] at htv
         subst htv
         have BWz : Hid (Below w.heap.size w wr) := B6.out.trans (BZ.out.mono B6.out.size)
         have I7 : Hid (SlA c par x m base j (j + 1) (.slice (some ⟨ga, 0, none⟩) (j + 1) ca) (.slice (some ⟨g2, 0, none⟩) (j + 1 + 1) cap2) vA (fun i => if i = j then .slice (some ⟨gq, 0, none⟩) ws sc else vS i) (wr.alloc (.cells #[.slice ta ws tc] 47))) := (I6.out.below BZ.out).below ((Below.refl _ _).alloc (Nat.le_refl _) _)
         have O7 : Hid (j + 1 ≤ m → OutI (wr.alloc (.cells #[.slice ta ws tc] 47)) 0 (.slice ta ws tc) (AN c par x (j + 1))) := fun h => by
          rw [RF.out h]; exact out_zero (owns_below OZ.out ((Below.refl _ _).alloc (Nat.le_refl _) _))
         have C7 : Hid (wr.heap[Bc]? = some (.cells X 24 (0, 0))) := (BZ.out.block _ (lt_of_heap C6.out)).trans C6.out
         have BA : Hid (Below w.heap.size w (wr.alloc (.cells #[.slice ta ws tc] 47))) := BWz.out.alloc BWz.out.size _
         have ln2 : ((List.range (j + 1)).map vA).length = j + 1 := by simp
         go_wp2_with (first
          | (at_builtin; refine wpList_append_lies _ rfl _ _ 128 rfl base 47 k0 _ 1 24 Tryz.under128 INV.out.1 INV.out.2.1 INV.out.2.2.1 INV.out.2.2.2 rfl (by decide) _ _ _ rfl (by have h := I7.out.oA; unfold OutV at h; rw [ln2] at h; exact h) ⟨wr.heap.size, 0, none⟩ 1 1 [.slice ta ws tc] rfl rfl (one_cell47 _ _ rfl _) (one_c _ rfl) (by decide) (by unfold maxLen; omega) (by omega) I7.out.bs _ rfl ?_
             intro g4 cap4 x6 hown hgrow hat hlt2
             have I8 : Hid (SlA c par x m base (j + 1) (j + 1) (.slice (some ⟨g4, 0, none⟩) (j + 1 + 1) cap4) (.slice (some ⟨g2, 0, none⟩) (j + 1 + 1) cap2) (fun i => if i = j + 1 then .slice ta ws tc else vA i) (fun i => if i = j then .slice (some ⟨gq, 0, none⟩) ws sc else vS i) x6) := I7.out.appA O7.out (by show World.ownsRow _ _ _ _ _ _ _; rw [List.length_append, ln2]; exact hown) hgrow hat
             have B8 : Hid (Below w.heap.size w x6) := BA.out.grown hgrow BA.out.size (fun k hk => by have h1 := (World.ownsRow.lt I7.out.oA k hk).1; have h2 := WBs.out.1; omega)
             have C8 : Hid (x6.heap[Bc]? = some (.cells X 24 (0, 0))) := by
              rw [hgrow.block Bc (by have := lt_of_heap C7.out; simp; omega) (fun q => by have h1 := (World.ownsRow.lt I7.out.oA Bc q.symm).1; have h2 := WBs.out.2; omega), Below.heap_alloc _ _ _ (lt_of_heap C7.out)]
              exact C7.out
             clear hown hgrow hat hlt2))
         go_roundw
         case rel => exact ⟨j + 1, _, _, by omega, by go_num, I8.out, C8.out, B8.out⟩
         case measure => simp [intOf]; omega

  · have hje : j = m + 1 := by omega
    subst hje
    obtain ⟨w1, h⟩ : ∃ w1, w1 = wr := ⟨_, rfl⟩
    subst h
    have AC : Hid (∀ q, q ≤ m → w1.cell? ⟨ga, q, none⟩ = some (vA q)) := fun q hq => (gac q (by omega)).trans (by rw [List.getElem?_map, List.getElem?_range (by omega)]; rfl)
    have SC : Hid (∀ q, q ≤ m → w1.cell? ⟨gs, q + 1, none⟩ = some (vS q)) := fun q hq => (gsc (q + 1) (by omega)).trans (by rw [List.getElem?_cons_succ, List.getElem?_map, List.getElem?_range (by omega)]; rfl)
    have GL : Hid (ga < w1.heap.size ∧ gs < w1.heap.size) := ⟨gal, gsl⟩
    have OA : Hid (∀ q, q ≤ m → OutI w1 0 (vA q) (AN c par x q)) := fun q hq => HI.out.iA q (by omega) hq
    have OS : Hid (∀ q, q ≤ m → OutI w1 0 (vS q) (SM c par x q)) := fun q hq => HI.out.iS q (by omega)
    have ng : ¬ ((m : Int) + 1 + 1 ≤ (m : Int) + 1) := by omega
    have n0 : (0 : Int) ≤ (n : Int) := by omega
    have FC : Hid (∀ U, Below w1.heap.size w1 U → U.heap[Bc]? = some (.cells X 24 (0, 0)) ∧ OutI U b1 vp par ∧ OutI U b3 vy y ∧ Below w.heap.size w U) := fun U hU => by
     have h := BW.out.trans (hU.mono BW.out.size)
     exact ⟨(hU.block _ (lt_of_heap HC.out)).trans HC.out, owns_below HOP.out h, owns_below HOY.out h, h⟩
    clear gac gsc hac hsc gal gsl HI hlt hj SMc
    rw [show ((m + 1 : Nat) : Int) = (m : Int) + 1 by omega]
    go_upto_region 18 with (first
     | (refine wpList_load_row rfl 24 _ rfl Bc rfl 24 X (0, 0) _ HC.out Tryz.underlying24 rfl IX.out ?_)
     | (go_at_call 36; refine (RS.out _).mono ?_; rintro e w3 ⟨rfl, b3'⟩
        have B3 : Hid (Below w1.heap.size w1 w3) := b3'
        obtain ⟨G, hG⟩ : ∃ G, G = w3.heap.size := ⟨_, rfl⟩
        have HG : Hid _ := hG
        clear b3' hG)
     | (at_make; refine wpList_make_full _ rfl _ _ 47 rfl w3.heap.size 3 j0 _ 1 Tryz.under47 INF.out.1 INF.out.2.1 INF.out.2.2.1 _ _ _ _ n rfl rfl rfl rfl (by rw [INF.out.2.2.2]; omega) (by unfold maxLen; omega) (Nat.le_refl _) ?_
        intro w2 hown hgr
        rw [Nat.mul_one] at hown
        have B2 : Hid (Below w3.heap.size w3 w2) := (Below.refl _ _).grown hgr (Nat.le_refl _) (by simp)
        have H2 : Hid (w2.heap[w3.heap.size]? = some (.cells (i64s (GP c par x y m 0)) 3 (0, 0))) := by show _ = _; rw [show GP c par x y m 0 = List.replicate n 0 by rw [HNN.out]; rfl]; exact made_i64 hown
        rw [← HG.out] at H2 ⊢
        clear hown hgr))
    have G1 : Hid (w1.heap.size ≤ G ∧ G < w2.heap.size) := by have h1 := B3.out.size; have h2 := HG.out; have h3 := lt_of_heap H2.out; show _ ∧ _; omega
    have F2 : Hid (∀ U, But (fun k => k = G) w2 U → Below w1.heap.size w1 U) := fun U hU => by
     have h1 := G1.out
     have b := B3.out.trans (B2.out.mono B3.out.size)
     exact ⟨hU.os.trans b.os, hU.tape.trans b.tape, hU.output.trans b.output, Nat.le_trans b.size hU.size, fun k hk => (hU.block k (Nat.lt_of_lt_of_le hk b.size) (by omega)).trans (b.block k hk)⟩
    have KS : Hid (∀ U, Below w2.heap.size w2 U → U.rangeAt Bc 0 X.toList ∧ U.cell? ⟨Bc, 0, none⟩ = some (.int .i64 ((m : Int) + 1)) ∧ U.cell? ⟨gs, m + 1, none⟩ = some (vS m)) := fun U hU => by
     have h := F2.out U (But.below hU)
     have c1 := (FC.out U h).1
     exact ⟨rng c1, (cell_of_block c1 0).trans XC.out.1, (h.cell (p := ⟨gs, m + 1, none⟩) GL.out.2).trans (SC.out m (Nat.le_refl _))⟩
    have s18 := KS.out w2 (Below.refl _ _)
    have WR1 : Hid (∀ U, Below w2.heap.size w2 U → Calls Tryz.prog 108 #[.agg X, vS m, vy] U fun e w' => ∃ v, e = .returned v ∧ OutI w' U.heap.size v (ER c par x y m 0) ∧ Below U.heap.size U w') := fun U hU => by
     have h := F2.out U (But.below hU)
     exact WRc.out (vS m) U (owns_below (OS.out m (Nat.le_refl _)) h) (FC.out U h).2.2.1
    obtain ⟨vm, hvm⟩ : ∃ z, z = vS m := ⟨_, rfl⟩
    rw [← hvm] at WR1 KS s18
    have ml : (m : Int) + 1 < (m : Int) + 1 + 1 := by omega
    have m0 : (0 : Int) ≤ (m : Int) + 1 := by omega
    clear hvm B3 B2 HG l0 ng RS
    refine wp_region_held_drew (S := fun w' => w'.rangeAt Bc 0 X.toList ∧ w'.cell? ⟨Bc, 0, none⟩ = some (.int .i64 ((m : Int) + 1)) ∧ w'.cell? ⟨gs, m + 1, none⟩ = some vm) (by kernel_rfl) s18 (fun hS => ?_)
    refine wpAnyH_take (i := 0) (oi := ⟨some 77, .load 24 (.tmp 4), 24, "train.go:282", #[], none⟩) (v := .agg X.toList.toArray) rfl (by kernel_rfl) (by kernel_rfl) (by kernel_rfl) (fun _ _ _ h => h) (yieldsIf_load_mid (by rfl) 24 _ rfl Bc 0 rfl X.toList _ (fun w h => h.1) Tryz.underlying24 rfl IXL.out) hS ?_
    rw [Array.toArray_toList]
    try go_frame
    refine wpAnyH_take (i := 1) (oi := ⟨some 78, .move (.tmp 10), 128, "train.go:282", #[], none⟩) (v := ?_) rfl (by kernel_rfl) (by kernel_rfl) (by kernel_rfl) (fun _ _ _ h => h) (Or.inl ⟨by kernel_rfl, ?_⟩) hS ?_
    rotate_left
    · intro w hSw; (try dsimp only at hSw); go_simp; (try with_reducible rfl)
    try go_frame
    refine wpAnyH_take (i := 2) (oi := ⟨some 79, .fieldAddr 24 (.tmp 4) 0, 0, "train.go:282", #[], none⟩) (v := ?_) rfl (by kernel_rfl) (by kernel_rfl) (by kernel_rfl) (fun _ _ _ h => h) (Or.inl ⟨by kernel_rfl, ?_⟩) hS ?_
    rotate_left
    · intro w hSw; (try dsimp only at hSw); go_simp; (try with_reducible rfl)
    try go_frame
    refine wpAnyH_take (i := 3) (oi := ⟨some 80, .load 3 (.tmp 79), 3, "train.go:282", #[⟨2, .data⟩], none⟩) (v := ?_) rfl (by kernel_rfl) (by kernel_rfl) (by kernel_rfl) (fun _ _ _ h => h) (Or.inl ⟨by kernel_rfl, ?_⟩) hS ?_
    rotate_left
    · intro w hSw; (try dsimp only at hSw); go_simp; (try with_reducible rfl)
    try go_frame
    refine wpAnyH_take (i := 4) (oi := ⟨some 81, .indexAddr 128 (.tmp 78) (.tmp 80), 0, "train.go:282", #[⟨1, .data⟩, ⟨3, .data⟩], none⟩) (v := ?_) rfl (by kernel_rfl) (by kernel_rfl) (by kernel_rfl) (fun _ _ _ h => h) (Or.inl ⟨by kernel_rfl, ?_⟩) hS ?_
    rotate_left
    · intro w hSw; (try dsimp only at hSw); go_simp; (try with_reducible rfl)
    try go_frame
    refine wpAnyH_take (i := 5) (oi := ⟨some 82, .load 47 (.tmp 81), 47, "train.go:282", #[⟨4, .data⟩], none⟩) (v := ?_) rfl (by kernel_rfl) (by kernel_rfl) (by kernel_rfl) (fun _ _ _ h => h) (Or.inl ⟨by kernel_rfl, ?_⟩) hS ?_
    rotate_left
    · intro w hSw; (try dsimp only at hSw); go_simp; (try with_reducible rfl)
    try go_frame
    refine wpAnyH_take (i := 6) (oi := ⟨some 83, .move (.tmp 3), 47, "train.go:282", #[], none⟩) (v := ?_) rfl (by kernel_rfl) (by kernel_rfl) (by kernel_rfl) (fun _ _ _ h => h) (Or.inl ⟨by kernel_rfl, ?_⟩) hS ?_
    rotate_left
    · intro w hSw; (try dsimp only at hSw); go_simp; (try with_reducible rfl)
    try go_frame
    refine wpAnyH_ready (rs := [7]) (by kernel_rfl) (by simp) ?_
    refine AllReadyH.cons (o := ⟨some 84, .call { callee := .value (.func 108), args := #[.tmp 77, .tmp 82, .tmp 83], argTypes := #[24, 47, 47] }, 47, "train.go:282", #[⟨0, .data⟩, ⟨5, .data⟩, ⟨6, .data⟩], none⟩) rfl (fun K hK => ?_) AllReadyH.nil
    go_simp
    refine (WR1.out _ ((Below.refl _ _).drew)).mono ?_
    rintro e w5 ⟨ve, rfl, oe, b5⟩
    have B5 : Hid (Below w2.heap.size w2 w5) := ((Below.refl _ _).drew).trans b5
    have OE : Hid (OutI w5 w2.heap.size ve (ER c par x y m 0)) := oe
    clear b5 oe hS
    go_wp2_with fail
    refine hK.out _ _ (KS.out _ B5.out) (fun hS => ?_)
    try go_frame
    clear hK K
    refine wpAnyH_take (i := 8) (oi := ⟨some 17, .assign (.tmp 84), 47, "train.go:282", #[⟨7, .data⟩, ⟨7, .chain⟩, ⟨0, .phase⟩, ⟨1, .phase⟩, ⟨2, .phase⟩, ⟨3, .phase⟩, ⟨4, .phase⟩, ⟨5, .phase⟩, ⟨6, .phase⟩, ⟨7, .phase⟩], none⟩) (v := ?_) rfl (by kernel_rfl) (by kernel_rfl) (by kernel_rfl) (fun _ _ _ h => h) (Or.inl ⟨by kernel_rfl, ?_⟩) hS ?_
    rotate_left
    · intro w hSw; (try dsimp only at hSw); go_simp; (try with_reducible rfl)
    try go_frame
    refine wpAnyH_done (by kernel_rfl) ?_ _
    clear hS s18 ml m0 KS WR1
    have O0 : Hid (OutI w5 w2.heap.size ve (ER c par x y m 0)) := OE.out
    have H0 : Hid (w5.heap[G]? = some (.cells (i64s (GP c par x y m 0)) 3 (0, 0))) := (B5.out.block _ (lt_of_heap H2.out)).trans H2.out
    have U0 : Hid (But (fun k => k = G) w2 w5) := But.below B5.out
    have c5 : w5.cell? ⟨Bc, 0, none⟩ = some (.int .i64 ((m : Int) + 1)) := (cell_of_block (FC.out w5 (F2.out w5 U0.out)).1 0).trans XC.out.1
    clear OE B5 H2
    go_wp2
    go_loopw [17, 18] (fun ev kv wr => ∃ q : Nat, q ≤ m ∧ kv = .int .i64 ((q : Int) + 1) ∧ Hid (OutI wr w2.heap.size ev (ER c par x y m (m - q))) ∧ Hid (wr.heap[G]? = some (.cells (i64s (GP c par x y m (m - q))) 3 (0, 0))) ∧ Hid (But (fun k => k = G) w2 wr)) (fun _ kv _ => (intOf kv).toNat)
    case atStart => exact ⟨m, Nat.le_refl _, rfl, by rw [Nat.sub_self]; exact O0.out, by rw [Nat.sub_self]; exact H0.out, U0.out⟩
    case round =>
     clear O0 H0 U0 c5
     obtain ⟨q, hq, rfl, HE, HL, UW⟩ := hrel
     obtain ⟨wq, h⟩ : ∃ w', w' = wr := ⟨_, rfl⟩
     subst h
     have GQ : Hid _ := GP_at c par x y m q hq
     have EL : Hid ((ER c par x y m (m - q)).length = wn c (q + 1)) := by
      show _ = _
      rw [ER_len c par x y m (m - q) (by omega), show m - (m - q) + 1 = q + 1 by omega]
     have EP : Hid (pats (ER c par x y m (m - q))) := ER_pats c HPP.out x y m (m - q)
     have AL : Hid ((AN c par x q).length = wn c q) := by
      show _ = _
      cases q with
      | zero => exact HLX.out
      | succ r => rw [AN_succ, ANS_len]
     have AP : Hid (pats (AN c par x q)) := AN_pats c HPP.out HPX.out q
     have LL : Hid ((GP c par x y m (m - q)).length = n) := by show _ = _; rw [HNN.out]; exact GP_len _ _ _ _ _ _
     have RM : Hid (sn c q + wn c (q + 1) * (wn c q + 1) ≤ n) := by show _ ≤ _; rw [HNN.out]; exact sn_room HWB.out q m hq m3
     have ns4 : wn c (q + 1) ≤ 4 := wn_le HWB.out (q + 1) (by omega)
     have ns1 : 1 ≤ wn c (q + 1) := HONE.out (q + 1) (by omega)
     have a4 : wn c q ≤ 4 := wn_le HWB.out q (by omega)
     have a1 : 1 ≤ wn c q := HONE.out q (by omega)
     have XN : Hid (X[1 + q]? = some (.int .i64 (wn c q : Int)) ∧ X[1 + (q + 1)]? = some (.int .i64 (wn c (q + 1) : Int))) := ⟨XC.out.2.2 q (by omega), XC.out.2.2 (q + 1) (by omega)⟩
     have W0c : Hid (∀ j : Nat, j ≤ 4 → ∀ U, Calls Tryz.prog 109 #[.agg X, .int .i64 ((q : Int) + 1), .int .i64 (j : Int), .int .i64 (-1)] U fun e w' => e = .returned (.int .i64 ((sn c q + j * (wn c q + 1) : Nat) : Int)) ∧ Below U.heap.size U w') := fun j hj U => WTc.out q j hq hj U
     have W1c : Hid (∀ j i : Nat, j ≤ 4 → i ≤ 4 → ∀ U, Calls Tryz.prog 109 #[.agg X, .int .i64 ((q : Int) + 1), .int .i64 (j : Int), .int .i64 (i : Int)] U fun e w' => e = .returned (.int .i64 ((sn c q + j * (wn c q + 1) + 1 + i : Nat) : Int)) ∧ Below U.heap.size U w') := fun j i hj hi U => WTi.out q j i hq hj hi U
     have OAq : Hid (OutI w1 0 (vA q) (AN c par x q)) := OA.out q hq
     have EA : Hid (∀ r, r + 1 = q → ER c par x y m (m - r) = (List.range (wn c q)).map (fun k => SLP c.bend (BL1 par (ER c par x y m (m - q)) (sn c q) (wn c q) k (wn c (q + 1))) ((SM c par x r).getD k 0) ((AN c par x q).getD k 0))) := fun r hr => by
      subst hr
      rw [ER_at c par x y m r hq, ERS_map]
     obtain ⟨E, hE⟩ : ∃ z, z = ER c par x y m (m - q) := ⟨_, rfl⟩
     obtain ⟨L0, hL0⟩ : ∃ z, z = GP c par x y m (m - q) := ⟨_, rfl⟩
     obtain ⟨A, hA⟩ : ∃ z, z = AN c par x q := ⟨_, rfl⟩
     obtain ⟨ns, hns⟩ : ∃ z, z = wn c (q + 1) := ⟨_, rfl⟩
     obtain ⟨a, ha⟩ : ∃ z, z = wn c q := ⟨_, rfl⟩
     obtain ⟨f, hf⟩ : ∃ z, z = sn c q := ⟨_, rfl⟩
     simp only [← hE, ← hL0, ← hA, ← hns, ← ha, ← hf] at GQ EL EP AL AP LL RM ns4 ns1 a4 a1 XN W0c W1c OAq EA HE HL
     have HAW : Hid (wn c q = a) := ha.symm
     clear hE hL0 hA hns ha hf
     obtain ⟨ea, ec, hev, hec⟩ := row_at HE.out
     rw [EL.out] at hev hec
     obtain ⟨ge, rfl, gel, gec⟩ := hec (by omega)
     subst hev
     have GE : Hid (w2.heap.size ≤ ge ∧ ge < wq.heap.size ∧ ∀ i, i < ns → wq.cell? ⟨ge, i, none⟩ = some (.int .i64 (E.getD i 0))) := ⟨(World.ownsRow.lt HE.out ge rfl).1, gel, gec⟩
     obtain ⟨aa, ac, hva, hac⟩ := row_at OAq.out
     rw [AL.out] at hva hac
     obtain ⟨gA, rfl, gAl, gAc⟩ := hac (by omega)
     have HVA : Hid _ := hva
     have GA : Hid (gA < w1.heap.size ∧ ∀ i, i < a → w1.cell? ⟨gA, i, none⟩ = some (.int .i64 (A.getD i 0))) := ⟨gAl, gAc⟩
     have KQ : Hid (∀ U, But (fun k => k = G) wq U → U.heap[Bc]? = some (.cells X 24 (0, 0)) ∧ (∀ j, j < ns → U.cell? ⟨ge, j, none⟩ = some (.int .i64 (E.getD j 0))) ∧ U.cell? ⟨ga, q, none⟩ = some (.slice (some ⟨gA, 0, none⟩) a ac) ∧ (∀ i, i < a → U.cell? ⟨gA, i, none⟩ = some (.int .i64 (A.getD i 0)))) := fun U hU => by
      have h := F2.out U (UW.out.trans hU)
      have g1 := G1.out
      have g2 := GE.out
      exact ⟨(FC.out U h).1, fun j hj => (hU.cell g2.2.1 (by omega) j).trans (g2.2.2 j hj), (h.cell (p := ⟨ga, q, none⟩) GL.out.1).trans ((AC.out q hq).trans (by rw [HVA.out])), fun i hi => (h.cell (p := ⟨gA, i, none⟩) GA.out.1).trans (GA.out.2 i hi)⟩
     have gk : (1 : Int) ≤ (q : Int) + 1 := by omega
     have q4 : (q : Int) + 1 < 4 := by omega
     have q4' : (q : Int) < 4 := by omega
     have q0 : (0 : Int) ≤ (q : Int) + 1 := by omega
     have q0' : (0 : Int) ≤ (q : Int) := by omega
     have wr1 : IntKind.i64.wrap ((q : Int) + 1 - 1) = (q : Int) := by rw [IntKind.wrap_i64]; omega
     have wr2 : IntKind.i64.wrap (q : Int) = (q : Int) := by rw [IntKind.wrap_i64]; omega
     have qm : (q : Int) < (m : Int) + 1 + 1 := by omega
     clear hec gel gec hac gAl gAc hva OAq AL
     go_wp2
     go_loopw [19] (fun jv wz => ∃ j : Nat, j ≤ ns ∧ jv = .int .i64 j ∧ Hid (wz.heap[G]? = some (.cells (i64s (SLO E A f a L0 j)) 3 (0, 0))) ∧ Hid (But (fun k => k = G) wq wz)) (fun jv _ => ns - (intOf jv).toNat)
     case atStart => exact ⟨0, by omega, rfl, HL.out, But.refl _ _⟩
     case round =>
      obtain ⟨j, hj, rfl, HJ, UJ⟩ := hrel
      obtain ⟨wj, h⟩ : ∃ w', w' = wr := ⟨_, rfl⟩
      subst h
      have k1 : wj.cell? ⟨Bc, 1 + (q + 1), none⟩ = some (.int .i64 (ns : Int)) := (cell_of_block (KQ.out _ UJ.out).1 _).trans XN.out.2
      by_cases hjl : j < ns
      · have PN : Hid (f + j * (a + 1) + (a + 1) ≤ n) := by
         have h1 := RM.out
         have h2 : (j + 1) * (a + 1) ≤ ns * (a + 1) := Nat.mul_le_mul_right _ hjl
         rw [Nat.add_mul, Nat.one_mul] at h2
         show _ ≤ _; omega
        have W0 : Hid _ := W0c.out j (by omega)
        have W1 : Hid (∀ i : Nat, i ≤ 4 → ∀ U, Calls Tryz.prog 109 #[.agg X, .int .i64 ((q : Int) + 1), .int .i64 (j : Int), .int .i64 (i : Int)] U fun e w' => e = .returned (.int .i64 ((f + j * (a + 1) + 1 + i : Nat) : Int)) ∧ Below U.heap.size U w') := fun i hi => W1c.out j i (by omega) hi
        have SJ : Hid (SLO E A f a L0 (j + 1) = SROW (E.getD j 0) A (f + j * (a + 1)) (SLO E A f a L0 j) a) := rfl
        have LJl : Hid ((SLO E A f a L0 j).length = n) := by show _ = _; rw [SLO_len]; exact LL.out
        have eb := pats_at EP.out j
        obtain ⟨p, hp⟩ : ∃ p, p = f + j * (a + 1) := ⟨_, rfl⟩
        obtain ⟨LJ, hLJ⟩ : ∃ z, z = SLO E A f a L0 j := ⟨_, rfl⟩
        obtain ⟨ej, hej⟩ : ∃ z, z = E.getD j 0 := ⟨_, rfl⟩
        have KS : Hid (∀ U, But (fun k => k = G) wq U → U.rangeAt Bc 0 X.toList ∧ U.cell? ⟨ge, j, none⟩ = some (.int .i64 ej)) := fun U hU => by
         have h := KQ.out U hU
         exact ⟨rng h.1, (h.2.1 j hjl).trans (by rw [hej])⟩
        simp only [← hp, ← hLJ, ← hej] at PN W0 W1 SJ LJl eb HJ
        have pn := PN.out
        have s25 := KS.out wj UJ.out
        have gp : wj.cell? ⟨G, p, none⟩ = some (.int .i64 (LJ.getD p 0)) := by rw [cell_of_block HJ.out, i64s_at LJ p (by rw [LJl.out]; omega)]
        have il : (j : Int) < (ns : Int) := by omega
        have i0 : (0 : Int) ≤ (j : Int) := by omega
        have pl : (p : Int) < (n : Int) := by omega
        have p0 : (0 : Int) ≤ (p : Int) := by omega
        clear hp hLJ hej
        go_upto_region 25 with fail
        refine wp_region_held_drew (S := fun w' => w'.rangeAt Bc 0 X.toList ∧ w'.cell? ⟨ge, j, none⟩ = some (.int .i64 ej)) (by kernel_rfl) s25 (fun hS => ?_)
        refine wpAnyH_take (i := 0) (oi := ⟨some 99, .move (.tmp 16), 47, "train.go:285", #[], none⟩) (v := ?_) rfl (by kernel_rfl) (by kernel_rfl) (by kernel_rfl) (fun _ _ _ h => h) (Or.inl ⟨by kernel_rfl, ?_⟩) hS ?_
        rotate_left
        · intro w hSw; (try dsimp only at hSw); go_simp; (try with_reducible rfl)
        try go_frame
        refine wpAnyH_take (i := 1) (oi := ⟨some 100, .load 24 (.tmp 4), 24, "train.go:285", #[], none⟩) (v := .agg X.toList.toArray) rfl (by kernel_rfl) (by kernel_rfl) (by kernel_rfl) (fun _ _ _ h => h) (yieldsIf_load_mid (by rfl) 24 _ rfl Bc 0 rfl X.toList _ (fun w h => h.1) Tryz.underlying24 rfl IXL.out) hS ?_
        rw [Array.toArray_toList]
        try go_frame
        refine wpAnyH_take (i := 2) (oi := ⟨some 101, .move (.tmp 18), 3, "train.go:285", #[], none⟩) (v := ?_) rfl (by kernel_rfl) (by kernel_rfl) (by kernel_rfl) (fun _ _ _ h => h) (Or.inl ⟨by kernel_rfl, ?_⟩) hS ?_
        rotate_left
        · intro w hSw; (try dsimp only at hSw); go_simp; (try with_reducible rfl)
        try go_frame
        refine wpAnyH_take (i := 3) (oi := ⟨some 102, .move (.tmp 19), 3, "train.go:285", #[], none⟩) (v := ?_) rfl (by kernel_rfl) (by kernel_rfl) (by kernel_rfl) (fun _ _ _ h => h) (Or.inl ⟨by kernel_rfl, ?_⟩) hS ?_
        rotate_left
        · intro w hSw; (try dsimp only at hSw); go_simp; (try with_reducible rfl)
        try go_frame
        refine wpAnyH_take (i := 5) (oi := ⟨some 104, .move (.tmp 17), 47, "train.go:285", #[], none⟩) (v := ?_) rfl (by kernel_rfl) (by kernel_rfl) (by kernel_rfl) (fun _ _ _ h => h) (Or.inl ⟨by kernel_rfl, ?_⟩) hS ?_
        rotate_left
        · intro w hSw; (try dsimp only at hSw); go_simp; (try with_reducible rfl)
        try go_frame
        refine wpAnyH_take (i := 6) (oi := ⟨some 105, .move (.tmp 19), 3, "train.go:285", #[], none⟩) (v := ?_) rfl (by kernel_rfl) (by kernel_rfl) (by kernel_rfl) (fun _ _ _ h => h) (Or.inl ⟨by kernel_rfl, ?_⟩) hS ?_
        rotate_left
        · intro w hSw; (try dsimp only at hSw); go_simp; (try with_reducible rfl)
        try go_frame
        refine wpAnyH_take (i := 7) (oi := ⟨some 106, .indexAddr 47 (.tmp 104) (.tmp 105), 0, "train.go:285", #[⟨5, .data⟩, ⟨6, .data⟩], none⟩) (v := ?_) rfl (by kernel_rfl) (by kernel_rfl) (by kernel_rfl) (fun _ _ _ h => h) (Or.inl ⟨by kernel_rfl, ?_⟩) hS ?_
        rotate_left
        · intro w hSw; (try dsimp only at hSw); go_simp; (try with_reducible rfl)
        try go_frame
        refine wpAnyH_take (i := 8) (oi := ⟨some 107, .load 3 (.tmp 106), 3, "train.go:285", #[⟨7, .data⟩], none⟩) (v := ?_) rfl (by kernel_rfl) (by kernel_rfl) (by kernel_rfl) (fun _ _ _ h => h) (Or.inl ⟨by kernel_rfl, ?_⟩) hS ?_
        rotate_left
        · intro w hSw; (try dsimp only at hSw); go_simp; (try with_reducible rfl)
        try go_frame
        refine wpAnyH_ready (rs := [4]) (by kernel_rfl) (by simp) ?_
        refine AllReadyH.cons (o := ⟨some 103, .call { callee := .value (.func 109), args := #[.tmp 100, .tmp 101, .tmp 102, .const (.int .i64 (-1))], argTypes := #[24, 3, 3, 3] }, 3, "train.go:285", #[⟨1, .data⟩, ⟨2, .data⟩, ⟨3, .data⟩], none⟩) rfl (fun K hK => ?_) AllReadyH.nil
        go_simp
        refine (W0.out _).mono ?_
        rintro e x1 ⟨rfl, c1⟩
        have X1 : Hid (Below wj.heap.size wj x1) := ((Below.refl _ _).drew).trans c1
        have H1 : Hid (x1.heap[G]? = some (.cells (i64s LJ) 3 (0, 0))) := (X1.out.block _ (lt_of_heap HJ.out)).trans HJ.out
        have p1 : x1.cell? ⟨G, p, none⟩ = some (.int .i64 (LJ.getD p 0)) := (X1.out.cell (p := ⟨G, p, none⟩) (lt_of_heap HJ.out)).trans gp
        have z1 : x1.frozen? ⟨G, p, none⟩ = false := unfrozen_of_block H1.out _
        clear c1 hS
        go_wp2_with fail
        refine hK.out _ _ (KS.out _ (UJ.out.trans (But.below X1.out))) (fun hS => ?_)
        try go_frame
        clear hK K
        refine wpAnyH_take (i := 9) (oi := ⟨some 108, .indexAddr 47 (.tmp 99) (.tmp 103), 0, "train.go:285", #[⟨0, .data⟩, ⟨4, .data⟩, ⟨0, .phase⟩, ⟨1, .phase⟩, ⟨2, .phase⟩, ⟨3, .phase⟩, ⟨4, .phase⟩, ⟨5, .phase⟩, ⟨6, .phase⟩, ⟨7, .phase⟩, ⟨8, .phase⟩], none⟩) (v := ?_) rfl (by kernel_rfl) (by kernel_rfl) (by kernel_rfl) (fun _ _ _ h => h) (Or.inl ⟨by kernel_rfl, ?_⟩) hS ?_
        rotate_left
        · intro w hSw; (try dsimp only at hSw); go_simp; (try with_reducible rfl)
        try go_frame
        refine wpAnyH_ready (rs := [10]) (by kernel_rfl) (by simp) ?_
        refine AllReadyH.cons (o := ⟨none, .store 3 (.tmp 108) (.tmp 107), 0, "train.go:285", #[⟨9, .data⟩, ⟨8, .data⟩, ⟨4, .chain⟩, ⟨0, .phase⟩, ⟨1, .phase⟩, ⟨2, .phase⟩, ⟨3, .phase⟩, ⟨4, .phase⟩, ⟨5, .phase⟩, ⟨6, .phase⟩, ⟨7, .phase⟩, ⟨8, .phase⟩], none⟩) rfl (fun K hK => ?_) AllReadyH.nil
        go_simp
        refine hK.out _ _ (KS.out _ ((UJ.out.trans (But.below X1.out)).trans (But.set x1 G p _ rfl))) (fun hS => ?_)
        try go_frame
        clear hK K
        refine wpAnyH_done (by kernel_rfl) ?_ _
        clear hS p1 z1 gp s25 k1
        obtain ⟨x2, hx2⟩ : ∃ z, z = x1.setCell ⟨G, p, none⟩ (.int .i64 ej) := ⟨_, rfl⟩
        have U2 : Hid (But (fun k => k = G) wq x2) := by rw [hx2]; exact (UJ.out.trans (But.below X1.out)).trans (But.set _ G p _ rfl)
        have H2 : Hid (x2.heap[G]? = some (.cells (i64s (SROW ej A p LJ 0)) 3 (0, 0))) := by show _ = _; rw [hx2, heap_set _ G p _ _ 3 _ H1.out, i64s_set]; rfl
        rw [← hx2]
        clear hx2 X1 H1 W0
        go_wp2
        go_loopw [20] (fun iv wz => ∃ i : Nat, i ≤ a ∧ iv = .int .i64 i ∧ Hid (wz.heap[G]? = some (.cells (i64s (SROW ej A p LJ i)) 3 (0, 0))) ∧ Hid (But (fun k => k = G) wq wz)) (fun iv _ => a - (intOf iv).toNat)
        case atStart => exact ⟨0, by omega, rfl, H2.out, U2.out⟩
        case round =>
         clear H2 U2
         obtain ⟨i, hi, rfl, HR, UR⟩ := hrel
         have k2 : wr.cell? ⟨Bc, 1 + q, none⟩ = some (.int .i64 (a : Int)) := (cell_of_block (KQ.out _ UR.out).1 _).trans XN.out.1
         by_cases hil : i < a
         · have W2 : Hid (∀ U, Calls Tryz.prog 109 #[.agg X, .int .i64 ((q : Int) + 1), .int .i64 (j : Int), .int .i64 (i : Int)] U fun e w' => e = .returned (.int .i64 ((p + 1 + i : Nat) : Int)) ∧ Below U.heap.size U w') := W1.out i (by omega)
           have SI : Hid (SROW ej A p LJ (i + 1) = (SROW ej A p LJ i).set (p + 1 + i) (MUL ej (A.getD i 0))) := rfl
           have LIl : Hid ((SROW ej A p LJ i).length = n) := by show _ = _; rw [SROW_len]; exact LJl.out
           have ab := pats_at AP.out i
           obtain ⟨pi, hpi⟩ : ∃ z, z = p + 1 + i := ⟨_, rfl⟩
           obtain ⟨LI, hLI⟩ : ∃ z, z = SROW ej A p LJ i := ⟨_, rfl⟩
           obtain ⟨ai, hai⟩ : ∃ z, z = A.getD i 0 := ⟨_, rfl⟩
           have KS9 : Hid (∀ U, But (fun k => k = G) wr U → U.rangeAt Bc 0 X.toList ∧ U.cell? ⟨ge, j, none⟩ = some (.int .i64 ej) ∧ U.cell? ⟨ga, q, none⟩ = some (.slice (some ⟨gA, 0, none⟩) a ac) ∧ U.cell? ⟨gA, i, none⟩ = some (.int .i64 ai)) := fun U hU => by
            have h := KQ.out U (UR.out.trans hU)
            have h2 := KS.out U (UR.out.trans hU)
            exact ⟨h2.1, h2.2, h.2.2.1, (h.2.2.2 i hil).trans (by rw [hai])⟩
           simp only [← hpi, ← hLI, ← hai] at W2 SI LIl ab HR
           have s29 := KS9.out wr (But.refl _ _)
           have M1 : Hid (∀ U, Calls Tryz.prog 39 #[.int .i64 ej, .int .i64 ai] U fun e w' => e = .returned (.int .i64 (MUL ej ai)) ∧ Below U.heap.size U w') := fun U => rmul_any _ _ U eb.1 eb.2 ab.1 ab.2
           have pin : pi < n := by omega
           have gi : wr.cell? ⟨G, pi, none⟩ = some (.int .i64 (LI.getD pi 0)) := by rw [cell_of_block HR.out, i64s_at LI pi (by rw [LIl.out]; exact pin)]
           have il2 : (i : Int) < (a : Int) := by omega
           have i02 : (0 : Int) ≤ (i : Int) := by omega
           have pl2 : (pi : Int) < (n : Int) := by omega
           have p02 : (0 : Int) ≤ (pi : Int) := by omega
           clear hpi hLI hai pl p0 pn
           go_upto_region 29 with fail
           refine wp_region_held_drew (S := fun w' => w'.rangeAt Bc 0 X.toList ∧ w'.cell? ⟨ge, j, none⟩ = some (.int .i64 ej) ∧ w'.cell? ⟨ga, q, none⟩ = some (.slice (some ⟨gA, 0, none⟩) a ac) ∧ w'.cell? ⟨gA, i, none⟩ = some (.int .i64 ai)) (by kernel_rfl) s29 (fun hS => ?_)
           refine wpAnyH_take (i := 0) (oi := ⟨some 118, .move (.tmp 16), 47, "train.go:287", #[], none⟩) (v := ?_) rfl (by kernel_rfl) (by kernel_rfl) (by kernel_rfl) (fun _ _ _ h => h) (Or.inl ⟨by kernel_rfl, ?_⟩) hS ?_
           rotate_left
           · intro w hSw; (try dsimp only at hSw); go_simp; (try with_reducible rfl)
           try go_frame
           refine wpAnyH_take (i := 1) (oi := ⟨some 119, .load 24 (.tmp 4), 24, "train.go:287", #[], none⟩) (v := .agg X.toList.toArray) rfl (by kernel_rfl) (by kernel_rfl) (by kernel_rfl) (fun _ _ _ h => h) (yieldsIf_load_mid (by rfl) 24 _ rfl Bc 0 rfl X.toList _ (fun w h => h.1) Tryz.underlying24 rfl IXL.out) hS ?_
           rw [Array.toArray_toList]
           try go_frame
           refine wpAnyH_take (i := 2) (oi := ⟨some 120, .move (.tmp 18), 3, "train.go:287", #[], none⟩) (v := ?_) rfl (by kernel_rfl) (by kernel_rfl) (by kernel_rfl) (fun _ _ _ h => h) (Or.inl ⟨by kernel_rfl, ?_⟩) hS ?_
           rotate_left
           · intro w hSw; (try dsimp only at hSw); go_simp; (try with_reducible rfl)
           try go_frame
           refine wpAnyH_take (i := 3) (oi := ⟨some 121, .move (.tmp 19), 3, "train.go:287", #[], none⟩) (v := ?_) rfl (by kernel_rfl) (by kernel_rfl) (by kernel_rfl) (fun _ _ _ h => h) (Or.inl ⟨by kernel_rfl, ?_⟩) hS ?_
           rotate_left
           · intro w hSw; (try dsimp only at hSw); go_simp; (try with_reducible rfl)
           try go_frame
           refine wpAnyH_take (i := 4) (oi := ⟨some 122, .move (.tmp 20), 3, "train.go:287", #[], none⟩) (v := ?_) rfl (by kernel_rfl) (by kernel_rfl) (by kernel_rfl) (fun _ _ _ h => h) (Or.inl ⟨by kernel_rfl, ?_⟩) hS ?_
           rotate_left
           · intro w hSw; (try dsimp only at hSw); go_simp; (try with_reducible rfl)
           try go_frame
           refine wpAnyH_take (i := 6) (oi := ⟨some 124, .move (.tmp 17), 47, "train.go:287", #[], none⟩) (v := ?_) rfl (by kernel_rfl) (by kernel_rfl) (by kernel_rfl) (fun _ _ _ h => h) (Or.inl ⟨by kernel_rfl, ?_⟩) hS ?_
           rotate_left
           · intro w hSw; (try dsimp only at hSw); go_simp; (try with_reducible rfl)
           try go_frame
           refine wpAnyH_take (i := 7) (oi := ⟨some 125, .move (.tmp 19), 3, "train.go:287", #[], none⟩) (v := ?_) rfl (by kernel_rfl) (by kernel_rfl) (by kernel_rfl) (fun _ _ _ h => h) (Or.inl ⟨by kernel_rfl, ?_⟩) hS ?_
           rotate_left
           · intro w hSw; (try dsimp only at hSw); go_simp; (try with_reducible rfl)
           try go_frame
           refine wpAnyH_take (i := 8) (oi := ⟨some 126, .indexAddr 47 (.tmp 124) (.tmp 125), 0, "train.go:287", #[⟨6, .data⟩, ⟨7, .data⟩], none⟩) (v := ?_) rfl (by kernel_rfl) (by kernel_rfl) (by kernel_rfl) (fun _ _ _ h => h) (Or.inl ⟨by kernel_rfl, ?_⟩) hS ?_
           rotate_left
           · intro w hSw; (try dsimp only at hSw); go_simp; (try with_reducible rfl)
           try go_frame
           refine wpAnyH_take (i := 9) (oi := ⟨some 127, .load 3 (.tmp 126), 3, "train.go:287", #[⟨8, .data⟩], none⟩) (v := ?_) rfl (by kernel_rfl) (by kernel_rfl) (by kernel_rfl) (fun _ _ _ h => h) (Or.inl ⟨by kernel_rfl, ?_⟩) hS ?_
           rotate_left
           · intro w hSw; (try dsimp only at hSw); go_simp; (try with_reducible rfl)
           try go_frame
           refine wpAnyH_take (i := 10) (oi := ⟨some 128, .move (.tmp 9), 128, "train.go:287", #[], none⟩) (v := ?_) rfl (by kernel_rfl) (by kernel_rfl) (by kernel_rfl) (fun _ _ _ h => h) (Or.inl ⟨by kernel_rfl, ?_⟩) hS ?_
           rotate_left
           · intro w hSw; (try dsimp only at hSw); go_simp; (try with_reducible rfl)
           try go_frame
           refine wpAnyH_take (i := 11) (oi := ⟨some 129, .move (.tmp 18), 3, "train.go:287", #[], none⟩) (v := ?_) rfl (by kernel_rfl) (by kernel_rfl) (by kernel_rfl) (fun _ _ _ h => h) (Or.inl ⟨by kernel_rfl, ?_⟩) hS ?_
           rotate_left
           · intro w hSw; (try dsimp only at hSw); go_simp; (try with_reducible rfl)
           try go_frame
           refine wpAnyH_take (i := 12) (oi := ⟨some 130, .binOp .sub 3 (.tmp 129) (.const (.int .i64 1)) 3, 3, "train.go:287", #[⟨11, .data⟩], none⟩) (v := ?_) rfl (by kernel_rfl) (by kernel_rfl) (by kernel_rfl) (fun _ _ _ h => h) (Or.inl ⟨by kernel_rfl, ?_⟩) hS ?_
           rotate_left
           · intro w hSw; (try dsimp only at hSw); go_simp; (try with_reducible rfl)
           try go_frame
           refine wpAnyH_take (i := 13) (oi := ⟨some 131, .indexAddr 128 (.tmp 128) (.tmp 130), 0, "train.go:287", #[⟨10, .data⟩, ⟨12, .data⟩], none⟩) (v := ?_) rfl (by kernel_rfl) (by kernel_rfl) (by kernel_rfl) (fun _ _ _ h => h) (Or.inl ⟨by kernel_rfl, ?_⟩) hS ?_
           rotate_left
           · intro w hSw; (try dsimp only at hSw); go_simp; (try with_reducible rfl)
           try go_frame
           refine wpAnyH_take (i := 14) (oi := ⟨some 132, .load 47 (.tmp 131), 47, "train.go:287", #[⟨13, .data⟩], none⟩) (v := ?_) rfl (by kernel_rfl) (by kernel_rfl) (by kernel_rfl) (fun _ _ _ h => h) (Or.inl ⟨by kernel_rfl, ?_⟩) hS ?_
           rotate_left
           · intro w hSw; (try dsimp only at hSw); go_simp; (try with_reducible rfl)
           try go_frame
           refine wpAnyH_take (i := 15) (oi := ⟨some 133, .move (.tmp 20), 3, "train.go:287", #[], none⟩) (v := ?_) rfl (by kernel_rfl) (by kernel_rfl) (by kernel_rfl) (fun _ _ _ h => h) (Or.inl ⟨by kernel_rfl, ?_⟩) hS ?_
           rotate_left
           · intro w hSw; (try dsimp only at hSw); go_simp; (try with_reducible rfl)
           try go_frame
           refine wpAnyH_take (i := 16) (oi := ⟨some 134, .indexAddr 47 (.tmp 132) (.tmp 133), 0, "train.go:287", #[⟨14, .data⟩, ⟨15, .data⟩], none⟩) (v := ?_) rfl (by kernel_rfl) (by kernel_rfl) (by kernel_rfl) (fun _ _ _ h => h) (Or.inl ⟨by kernel_rfl, ?_⟩) hS ?_
           rotate_left
           · intro w hSw; (try dsimp only at hSw); go_simp; (try with_reducible rfl)
           try go_frame
           refine wpAnyH_take (i := 17) (oi := ⟨some 135, .load 3 (.tmp 134), 3, "train.go:287", #[⟨16, .data⟩], none⟩) (v := ?_) rfl (by kernel_rfl) (by kernel_rfl) (by kernel_rfl) (fun _ _ _ h => h) (Or.inl ⟨by kernel_rfl, ?_⟩) hS ?_
           rotate_left
           · intro w hSw; (try dsimp only at hSw); go_simp; (try with_reducible rfl)
           try go_frame
           refine wpAnyH_ready (rs := [5]) (by kernel_rfl) (by simp) ?_
           refine AllReadyH.cons (o := ⟨some 123, .call { callee := .value (.func 109), args := #[.tmp 119, .tmp 120, .tmp 121, .tmp 122], argTypes := #[24, 3, 3, 3] }, 3, "train.go:287", #[⟨1, .data⟩, ⟨2, .data⟩, ⟨3, .data⟩, ⟨4, .data⟩], none⟩) rfl (fun K hK => ?_) AllReadyH.nil
           go_simp
           refine (W2.out _).mono ?_
           rintro e x3 ⟨rfl, c3⟩
           have X3 : Hid (Below wr.heap.size wr x3) := ((Below.refl _ _).drew).trans c3
           clear c3 hS
           go_wp2_with fail
           refine hK.out _ _ (KS9.out _ (But.below X3.out)) (fun hS => ?_)
           try go_frame
           clear hK K
           refine wpAnyH_ready (rs := [18]) (by kernel_rfl) (by simp) ?_
           refine AllReadyH.cons (o := ⟨some 136, .call { callee := .value (.func 39), args := #[.tmp 127, .tmp 135], argTypes := #[3, 3] }, 3, "train.go:287", #[⟨9, .data⟩, ⟨17, .data⟩, ⟨5, .chain⟩], none⟩) rfl (fun K hK => ?_) AllReadyH.nil
           go_simp
           refine (M1.out _).mono ?_
           rintro e x4 ⟨rfl, c4⟩
           have X4 : Hid (Below wr.heap.size wr x4) := X3.out.trans (c4.mono X3.out.size)
           have H4 : Hid (x4.heap[G]? = some (.cells (i64s LI) 3 (0, 0))) := (X4.out.block _ (lt_of_heap HR.out)).trans HR.out
           have p4 : x4.cell? ⟨G, pi, none⟩ = some (.int .i64 (LI.getD pi 0)) := (X4.out.cell (p := ⟨G, pi, none⟩) (lt_of_heap HR.out)).trans gi
           have z4 : x4.frozen? ⟨G, pi, none⟩ = false := unfrozen_of_block H4.out _
           clear c4 hS
           go_wp2_with fail
           refine hK.out _ _ (KS9.out _ (But.below X4.out)) (fun hS => ?_)
           try go_frame
           clear hK K
           refine wpAnyH_take (i := 19) (oi := ⟨some 137, .indexAddr 47 (.tmp 118) (.tmp 123), 0, "train.go:287", #[⟨0, .data⟩, ⟨5, .data⟩, ⟨0, .phase⟩, ⟨1, .phase⟩, ⟨2, .phase⟩, ⟨3, .phase⟩, ⟨4, .phase⟩, ⟨5, .phase⟩, ⟨6, .phase⟩, ⟨7, .phase⟩, ⟨8, .phase⟩, ⟨9, .phase⟩, ⟨10, .phase⟩, ⟨11, .phase⟩, ⟨12, .phase⟩, ⟨13, .phase⟩, ⟨14, .phase⟩, ⟨15, .phase⟩, ⟨16, .phase⟩, ⟨17, .phase⟩, ⟨18, .phase⟩], none⟩) (v := ?_) rfl (by kernel_rfl) (by kernel_rfl) (by kernel_rfl) (fun _ _ _ h => h) (Or.inl ⟨by kernel_rfl, ?_⟩) hS ?_
           rotate_left
           · intro w hSw; (try dsimp only at hSw); go_simp; (try with_reducible rfl)
           try go_frame
           refine wpAnyH_ready (rs := [20]) (by kernel_rfl) (by simp) ?_
           refine AllReadyH.cons (o := ⟨none, .store 3 (.tmp 137) (.tmp 136), 0, "train.go:287", #[⟨19, .data⟩, ⟨18, .data⟩, ⟨18, .chain⟩, ⟨0, .phase⟩, ⟨1, .phase⟩, ⟨2, .phase⟩, ⟨3, .phase⟩, ⟨4, .phase⟩, ⟨5, .phase⟩, ⟨6, .phase⟩, ⟨7, .phase⟩, ⟨8, .phase⟩, ⟨9, .phase⟩, ⟨10, .phase⟩, ⟨11, .phase⟩, ⟨12, .phase⟩, ⟨13, .phase⟩, ⟨14, .phase⟩, ⟨15, .phase⟩, ⟨16, .phase⟩, ⟨17, .phase⟩, ⟨18, .phase⟩], none⟩) rfl (fun K hK => ?_) AllReadyH.nil
           go_simp
           refine hK.out _ _ (KS9.out _ ((But.below X4.out).trans (But.set x4 G pi _ rfl))) (fun hS => ?_)
           try go_frame
           clear hK K
           refine wpAnyH_done (by kernel_rfl) ?_ _
           clear hS p4 z4 gi s29 k2
           go_wp2
           go_roundw
           case rel =>
            refine ⟨i + 1, by omega, by go_num, ?_, (UR.out.trans (But.below X4.out)).trans (But.set _ G pi _ rfl)⟩
            show _ = _; rw [SI.out, heap_set _ G pi _ _ 3 _ H4.out, i64s_set]
           case measure => simp [intOf]; omega
         · have hie : i = a := by omega
           have R : Hid (wr.heap[G]? = some (.cells (i64s (SLO E A f a L0 (j + 1))) 3 (0, 0))) := by
            show _ = _; rw [SJ.out, ← hie]; exact HR.out
           clear hie
           go_wp2
           go_roundw
           case rel => exact ⟨j + 1, by omega, by go_num, R.out, UR.out⟩
           case measure => simp [intOf]; omega
      · have hje : ns = j := by omega
        have GN : Hid (wj.heap[G]? = some (.cells (i64s (GP c par x y m (m - q + 1))) 3 (0, 0))) := by
         show _ = _; rw [GQ.out, hje]; exact HJ.out
        have njl : ¬ ((j : Int) < (ns : Int)) := by omega
        clear hjl
        go_upto_region 30 with fail
        clear njl k1
        by_cases hq0 : q = 0
        · have kk : (q : Int) + 1 = 1 := by omega
          clear hje
          go_wp2
          go_ret
          have h := out_of_block GN.out (b := w.heap.size) (by have h1 := G1.out.1; have h2 := BW.out.size; omega) (by rw [GP_len, ← HNN.out]; unfold maxLen; omega)
          rw [GP_len, ← HNN.out] at h
          refine ⟨_, rfl, ?_, (FC.out _ (F2.out _ (UW.out.trans UJ.out))).2.2.2⟩
          rw [hq0] at h
          exact h
        · obtain ⟨r, hr⟩ : ∃ r, r + 1 = q := ⟨q - 1, by omega⟩
          have kk : ¬ ((q : Int) + 1 = 1) := by omega
          have ER1 : Hid _ := EA.out r hr
          have SP : Hid (pats (SM c par x r)) := SM_pats c HPP.out x r
          have SL : Hid ((SM c par x r).length = a) := by
           show _ = _
           rw [SM_len, hr]; exact HAW.out
          have OSr : Hid (OutI w1 0 (vS r) (SM c par x r)) := OS.out r (by omega)
          have SCr : Hid (w1.cell? ⟨gs, q, none⟩ = some (vS r)) := by rw [← hr]; exact SC.out r (by omega)
          obtain ⟨S, hS0⟩ : ∃ z, z = SM c par x r := ⟨_, rfl⟩
          simp only [← hS0] at ER1 SP SL OSr
          obtain ⟨sa, sc, hvs, hsc⟩ := row_at OSr.out
          rw [SL.out] at hvs hsc
          obtain ⟨gS, rfl, gSl, gSc⟩ := hsc (by omega)
          have HVS : Hid _ := hvs
          have GS : Hid (gS < w1.heap.size ∧ ∀ i, i < a → w1.cell? ⟨gS, i, none⟩ = some (.int .i64 (S.getD i 0))) := ⟨gSl, gSc⟩
          obtain ⟨pa, pc, hvp, hpc⟩ := row_at HOP.out
          rw [HLP.out, ← HNN.out] at hvp hpc
          obtain ⟨gp, rfl, gpl, gpc⟩ := hpc (by have h1 := RM.out; have h2 : 1 * 1 ≤ ns * (a + 1) := Nat.mul_le_mul ns1 (by omega); omega)
          have GPP : Hid (gp < w.heap.size ∧ ∀ i, i < n → w.cell? ⟨gp, i, none⟩ = some (.int .i64 (par.getD i 0))) := ⟨gpl, gpc⟩
          subst hvp
          obtain ⟨F, hF⟩ : ∃ F : Nat → Int, F = fun k => SLP c.bend (BL1 par E f a k ns) (S.getD k 0) (A.getD k 0) := ⟨_, rfl⟩
          have FE : Hid (∀ k, F k = SLP c.bend (BL1 par E f a k ns) (S.getD k 0) (A.getD k 0)) := fun k => by rw [hF]
          rw [← hF] at ER1
          have KR : Hid (∀ U, Below wj.heap.size wj U → U.heap[Bc]? = some (.cells X 24 (0, 0)) ∧ (∀ j, j < ns → U.cell? ⟨ge, j, none⟩ = some (.int .i64 (E.getD j 0))) ∧ U.cell? ⟨ga, q, none⟩ = some (.slice (some ⟨gA, 0, none⟩) a ac) ∧ (∀ i, i < a → U.cell? ⟨gA, i, none⟩ = some (.int .i64 (A.getD i 0))) ∧ U.cell? ⟨gs, q, none⟩ = some (.slice (some ⟨gS, 0, none⟩) a sc) ∧ (∀ i, i < a → U.cell? ⟨gS, i, none⟩ = some (.int .i64 (S.getD i 0))) ∧ (∀ i, i < n → U.cell? ⟨gp, i, none⟩ = some (.int .i64 (par.getD i 0)))) := fun U hU => by
           have hb := UJ.out.trans (But.below (O := fun k => k = G) hU)
           have h1 := KQ.out U hb
           have h := F2.out U (UW.out.trans hb)
           have hw := (FC.out U h).2.2.2
           exact ⟨h1.1, h1.2.1, h1.2.2.1, h1.2.2.2, (h.cell (p := ⟨gs, q, none⟩) GL.out.2).trans (SCr.out.trans (by rw [HVS.out])), fun i hi => (h.cell (p := ⟨gS, i, none⟩) GS.out.1).trans (GS.out.2 i hi), fun i hi => (hw.cell (p := ⟨gp, i, none⟩) GPP.out.1).trans (GPP.out.2 i hi)⟩
          have HR : Hid (r + 1 = q) := hr
          clear hF hS0 hsc gSl gSc hvs hpc gpl gpc hr hje OSr SCr GQ EA KQ SL
          go_wp2
          rw [show ((q : Int) + 1 == 1) = false by simp only [beq_eq_false_iff_ne, ne_eq]; exact kk]
          go_loopw [21, 22] (fun tv iv wz => ∃ i : Nat, i ≤ a ∧ iv = .int .i64 i ∧ Hid (OutI wz wj.heap.size tv ((List.range i).map F)) ∧ Hid (Below wj.heap.size wj wz)) (fun _ iv _ => a - (intOf iv).toNat)
          case atStart => exact ⟨0, by omega, rfl, World.ownsRow_nil _ _ _ _, Below.refl _ _⟩
          case round =>
           obtain ⟨i, hi, rfl, OT, BT⟩ := hrel
           obtain ⟨wi, h⟩ : ∃ w', w' = wr := ⟨_, rfl⟩
           subst h
           have k3 : wi.cell? ⟨Bc, 1 + q, none⟩ = some (.int .i64 (a : Int)) := (cell_of_block (KR.out _ BT.out).1 _).trans XN.out.1
           by_cases hil : i < a
           · have il2 : (i : Int) < (a : Int) := by omega
             have i02 : (0 : Int) ≤ (i : Int) := by omega
             have B0 : Hid (BL1 par E f a i 0 = 0) := rfl
             go_wp2
             go_loopw [23, 24] (fun bv jv wz => ∃ j : Nat, j ≤ ns ∧ jv = .int .i64 j ∧ bv = .int .i64 (BL1 par E f a i j) ∧ Hid (Below wi.heap.size wi wz)) (fun _ jv _ => ns - (intOf jv).toNat)
             case atStart => exact ⟨0, by omega, rfl, by rw [B0.out], Below.refl _ _⟩
             case round =>
              obtain ⟨j2, hj2, rfl, rfl, B12⟩ := hrel
              have B13 : Hid (Below wj.heap.size wj wr) := BT.out.trans (B12.out.mono BT.out.size)
              have k4 : wr.cell? ⟨Bc, 1 + (q + 1), none⟩ = some (.int .i64 (ns : Int)) := (cell_of_block (KR.out _ B13.out).1 _).trans XN.out.2
              by_cases hjl : j2 < ns
              · have W2 : Hid (∀ U, Calls Tryz.prog 109 #[.agg X, .int .i64 ((q : Int) + 1), .int .i64 (j2 : Int), .int .i64 (i : Int)] U fun e w' => e = .returned (.int .i64 ((f + j2 * (a + 1) + 1 + i : Nat) : Int)) ∧ Below U.heap.size U w') := W1c.out j2 i (by omega) (by omega)
                have PN : Hid (f + j2 * (a + 1) + 1 + i < n) := by
                 have h1 := RM.out
                 have h2 : (j2 + 1) * (a + 1) ≤ ns * (a + 1) := Nat.mul_le_mul_right _ hjl
                 rw [Nat.add_mul, Nat.one_mul] at h2
                 show _ < _; omega
                have BS : Hid (BL1 par E f a i (j2 + 1) = ADD (BL1 par E f a i j2) (MUL (par.getD (f + j2 * (a + 1) + 1 + i) 0) (E.getD j2 0))) := rfl
                have bb := BL1_bd par E f a i j2
                have eb := pats_at EP.out j2
                have pb := pats_at HPP.out (f + j2 * (a + 1) + 1 + i)
                have KS2 : Hid (∀ U, Below wr.heap.size wr U → U.rangeAt Bc 0 X.toList ∧ U.cell? ⟨gp, f + j2 * (a + 1) + 1 + i, none⟩ = some (.int .i64 (par.getD (f + j2 * (a + 1) + 1 + i) 0)) ∧ U.cell? ⟨ge, j2, none⟩ = some (.int .i64 (E.getD j2 0))) := fun U hU => by
                 have h := KR.out U (B13.out.trans (hU.mono B13.out.size))
                 exact ⟨rng h.1, h.2.2.2.2.2.2 _ PN.out, h.2.1 j2 hjl⟩
                obtain ⟨pi, hpi⟩ : ∃ z, z = f + j2 * (a + 1) + 1 + i := ⟨_, rfl⟩
                simp only [← hpi] at W2 PN BS pb KS2
                obtain ⟨ej, hej⟩ : ∃ z, z = E.getD j2 0 := ⟨_, rfl⟩
                obtain ⟨pv, hpv⟩ : ∃ z, z = par.getD pi 0 := ⟨_, rfl⟩
                obtain ⟨bv, hbv⟩ : ∃ z, z = BL1 par E f a i j2 := ⟨_, rfl⟩
                simp only [← hej, ← hpv, ← hbv] at BS bb eb pb KS2
                rw [← hbv]
                have s39 := KS2.out wr (Below.refl _ _)
                have M1 : Hid (∀ U, Calls Tryz.prog 39 #[.int .i64 pv, .int .i64 ej] U fun e w' => e = .returned (.int .i64 (MUL pv ej)) ∧ Below U.heap.size U w') := fun U => rmul_any _ _ U pb.1 pb.2 eb.1 eb.2
                have mb := MUL_bd' pv ej
                have A1 : Hid (∀ U, Calls Tryz.prog 45 #[.int .i64 bv, .int .i64 (MUL pv ej)] U fun e w' => e = .returned (.int .i64 (ADD bv (MUL pv ej))) ∧ Below U.heap.size U w') := fun U => radd_any _ _ U bb.1 bb.2 mb.1 mb.2
                have jl : (j2 : Int) < (ns : Int) := by omega
                have j00 : (0 : Int) ≤ (j2 : Int) := by omega
                have pn := PN.out
                have pl2 : (pi : Int) < (n : Int) := by omega
                have p02 : (0 : Int) ≤ (pi : Int) := by omega
                clear hpi hej hpv hbv pn mb
                go_upto_region 39 with fail
                refine wp_region_held_drew (S := fun w' => w'.rangeAt Bc 0 X.toList ∧ w'.cell? ⟨gp, pi, none⟩ = some (.int .i64 pv) ∧ w'.cell? ⟨ge, j2, none⟩ = some (.int .i64 ej)) (by kernel_rfl) s39 (fun hS => ?_)
                refine wpAnyH_take (i := 0) (oi := ⟨some 157, .move (.tmp 23), 3, "train.go:297", #[], none⟩) (v := ?_) rfl (by kernel_rfl) (by kernel_rfl) (by kernel_rfl) (fun _ _ _ h => h) (Or.inl ⟨by kernel_rfl, ?_⟩) hS ?_
                rotate_left
                · intro w hSw; (try dsimp only at hSw); go_simp; (try with_reducible rfl)
                try go_frame
                refine wpAnyH_take (i := 1) (oi := ⟨some 158, .move (.tmp 1), 47, "train.go:297", #[], none⟩) (v := ?_) rfl (by kernel_rfl) (by kernel_rfl) (by kernel_rfl) (fun _ _ _ h => h) (Or.inl ⟨by kernel_rfl, ?_⟩) hS ?_
                rotate_left
                · intro w hSw; (try dsimp only at hSw); go_simp; (try with_reducible rfl)
                try go_frame
                refine wpAnyH_take (i := 2) (oi := ⟨some 159, .load 24 (.tmp 4), 24, "train.go:297", #[], none⟩) (v := .agg X.toList.toArray) rfl (by kernel_rfl) (by kernel_rfl) (by kernel_rfl) (fun _ _ _ h => h) (yieldsIf_load_mid (by rfl) 24 _ rfl Bc 0 rfl X.toList _ (fun w h => h.1) Tryz.underlying24 rfl IXL.out) hS ?_
                rw [Array.toArray_toList]
                try go_frame
                refine wpAnyH_take (i := 3) (oi := ⟨some 160, .move (.tmp 18), 3, "train.go:297", #[], none⟩) (v := ?_) rfl (by kernel_rfl) (by kernel_rfl) (by kernel_rfl) (fun _ _ _ h => h) (Or.inl ⟨by kernel_rfl, ?_⟩) hS ?_
                rotate_left
                · intro w hSw; (try dsimp only at hSw); go_simp; (try with_reducible rfl)
                try go_frame
                refine wpAnyH_take (i := 4) (oi := ⟨some 161, .move (.tmp 24), 3, "train.go:297", #[], none⟩) (v := ?_) rfl (by kernel_rfl) (by kernel_rfl) (by kernel_rfl) (fun _ _ _ h => h) (Or.inl ⟨by kernel_rfl, ?_⟩) hS ?_
                rotate_left
                · intro w hSw; (try dsimp only at hSw); go_simp; (try with_reducible rfl)
                try go_frame
                refine wpAnyH_take (i := 5) (oi := ⟨some 162, .move (.tmp 22), 3, "train.go:297", #[], none⟩) (v := ?_) rfl (by kernel_rfl) (by kernel_rfl) (by kernel_rfl) (fun _ _ _ h => h) (Or.inl ⟨by kernel_rfl, ?_⟩) hS ?_
                rotate_left
                · intro w hSw; (try dsimp only at hSw); go_simp; (try with_reducible rfl)
                try go_frame
                refine wpAnyH_take (i := 9) (oi := ⟨some 166, .move (.tmp 17), 47, "train.go:297", #[], none⟩) (v := ?_) rfl (by kernel_rfl) (by kernel_rfl) (by kernel_rfl) (fun _ _ _ h => h) (Or.inl ⟨by kernel_rfl, ?_⟩) hS ?_
                rotate_left
                · intro w hSw; (try dsimp only at hSw); go_simp; (try with_reducible rfl)
                try go_frame
                refine wpAnyH_take (i := 10) (oi := ⟨some 167, .move (.tmp 24), 3, "train.go:297", #[], none⟩) (v := ?_) rfl (by kernel_rfl) (by kernel_rfl) (by kernel_rfl) (fun _ _ _ h => h) (Or.inl ⟨by kernel_rfl, ?_⟩) hS ?_
                rotate_left
                · intro w hSw; (try dsimp only at hSw); go_simp; (try with_reducible rfl)
                try go_frame
                refine wpAnyH_take (i := 11) (oi := ⟨some 168, .indexAddr 47 (.tmp 166) (.tmp 167), 0, "train.go:297", #[⟨9, .data⟩, ⟨10, .data⟩], none⟩) (v := ?_) rfl (by kernel_rfl) (by kernel_rfl) (by kernel_rfl) (fun _ _ _ h => h) (Or.inl ⟨by kernel_rfl, ?_⟩) hS ?_
                rotate_left
                · intro w hSw; (try dsimp only at hSw); go_simp; (try with_reducible rfl)
                try go_frame
                refine wpAnyH_take (i := 12) (oi := ⟨some 169, .load 3 (.tmp 168), 3, "train.go:297", #[⟨11, .data⟩], none⟩) (v := ?_) rfl (by kernel_rfl) (by kernel_rfl) (by kernel_rfl) (fun _ _ _ h => h) (Or.inl ⟨by kernel_rfl, ?_⟩) hS ?_
                rotate_left
                · intro w hSw; (try dsimp only at hSw); go_simp; (try with_reducible rfl)
                try go_frame
                refine wpAnyH_ready (rs := [6]) (by kernel_rfl) (by simp) ?_
                refine AllReadyH.cons (o := ⟨some 163, .call { callee := .value (.func 109), args := #[.tmp 159, .tmp 160, .tmp 161, .tmp 162], argTypes := #[24, 3, 3, 3] }, 3, "train.go:297", #[⟨2, .data⟩, ⟨3, .data⟩, ⟨4, .data⟩, ⟨5, .data⟩], none⟩) rfl (fun K hK => ?_) AllReadyH.nil
                go_simp
                refine (W2.out _).mono ?_
                rintro e x3 ⟨rfl, c3⟩
                have X3 : Hid (Below wr.heap.size wr x3) := ((Below.refl _ _).drew).trans c3
                clear c3 hS
                go_wp2_with fail
                refine hK.out _ _ (KS2.out _ X3.out) (fun hS => ?_)
                try go_frame
                clear hK K
                refine wpAnyH_take (i := 7) (oi := ⟨some 164, .indexAddr 47 (.tmp 158) (.tmp 163), 0, "train.go:297", #[⟨1, .data⟩, ⟨6, .data⟩], none⟩) (v := ?_) rfl (by kernel_rfl) (by kernel_rfl) (by kernel_rfl) (fun _ _ _ h => h) (Or.inl ⟨by kernel_rfl, ?_⟩) hS ?_
                rotate_left
                · intro w hSw; (try dsimp only at hSw); go_simp; (try with_reducible rfl)
                try go_frame
                refine wpAnyH_take (i := 8) (oi := ⟨some 165, .load 3 (.tmp 164), 3, "train.go:297", #[⟨7, .data⟩], none⟩) (v := ?_) rfl (by kernel_rfl) (by kernel_rfl) (by kernel_rfl) (fun _ _ _ h => h) (Or.inl ⟨by kernel_rfl, ?_⟩) hS ?_
                rotate_left
                · intro w hSw; (try dsimp only at hSw); go_simp; (try with_reducible rfl)
                try go_frame
                refine wpAnyH_ready (rs := [13]) (by kernel_rfl) (by simp) ?_
                refine AllReadyH.cons (o := ⟨some 170, .call { callee := .value (.func 39), args := #[.tmp 165, .tmp 169], argTypes := #[3, 3] }, 3, "train.go:297", #[⟨8, .data⟩, ⟨12, .data⟩, ⟨6, .chain⟩], none⟩) rfl (fun K hK => ?_) AllReadyH.nil
                go_simp
                refine (M1.out _).mono ?_
                rintro e x4 ⟨rfl, c4⟩
                have X4 : Hid (Below wr.heap.size wr x4) := X3.out.trans (c4.mono X3.out.size)
                clear c4 hS
                go_wp2_with fail
                refine hK.out _ _ (KS2.out _ X4.out) (fun hS => ?_)
                try go_frame
                clear hK K
                refine wpAnyH_ready (rs := [14]) (by kernel_rfl) (by simp) ?_
                refine AllReadyH.cons (o := ⟨some 171, .call { callee := .value (.func 45), args := #[.tmp 157, .tmp 170], argTypes := #[3, 3] }, 3, "train.go:297", #[⟨0, .data⟩, ⟨13, .data⟩, ⟨13, .chain⟩], none⟩) rfl (fun K hK => ?_) AllReadyH.nil
                go_simp
                refine (A1.out _).mono ?_
                rintro e x5 ⟨rfl, c5⟩
                have X5 : Hid (Below wr.heap.size wr x5) := X4.out.trans (c5.mono X4.out.size)
                clear c5 hS
                go_wp2_with fail
                refine hK.out _ _ (KS2.out _ X5.out) (fun hS => ?_)
                try go_frame
                clear hK K
                refine wpAnyH_take (i := 15) (oi := ⟨some 23, .assign (.tmp 171), 3, "train.go:297", #[⟨14, .data⟩, ⟨14, .chain⟩, ⟨0, .phase⟩, ⟨1, .phase⟩, ⟨2, .phase⟩, ⟨3, .phase⟩, ⟨4, .phase⟩, ⟨5, .phase⟩, ⟨6, .phase⟩, ⟨7, .phase⟩, ⟨8, .phase⟩, ⟨9, .phase⟩, ⟨10, .phase⟩, ⟨11, .phase⟩, ⟨12, .phase⟩, ⟨13, .phase⟩, ⟨14, .phase⟩], none⟩) (v := ?_) rfl (by kernel_rfl) (by kernel_rfl) (by kernel_rfl) (fun _ _ _ h => h) (Or.inl ⟨by kernel_rfl, ?_⟩) hS ?_
                rotate_left
                · intro w hSw; (try dsimp only at hSw); go_simp; (try with_reducible rfl)
                try go_frame
                refine wpAnyH_done (by kernel_rfl) ?_ _
                clear hS s39 k4
                go_wp2
                go_roundw
                case rel => exact ⟨j2 + 1, by omega, by go_num, by rw [BS.out], B12.out.trans (X5.out.mono B12.out.size)⟩
                case measure => simp [intOf]; omega
              · have hje : ns = j2 := by omega
                subst hje
                have F1 : Hid _ := FE.out i
                have sb := pats_at SP.out i
                have ab := pats_at AP.out i
                have bb := BL1_bd par E f a i ns
                have KS4 : Hid (∀ U, Below wr.heap.size wr U → U.cell? ⟨Bc, 5, none⟩ = some (.int .i64 c.bend) ∧ U.cell? ⟨gs, q, none⟩ = some (.slice (some ⟨gS, 0, none⟩) a sc) ∧ U.cell? ⟨gS, i, none⟩ = some (.int .i64 (S.getD i 0)) ∧ U.cell? ⟨ga, q, none⟩ = some (.slice (some ⟨gA, 0, none⟩) a ac) ∧ U.cell? ⟨gA, i, none⟩ = some (.int .i64 (A.getD i 0))) := fun U hU => by
                 have h := KR.out U (B13.out.trans (hU.mono B13.out.size))
                 exact ⟨(cell_of_block h.1 5).trans XC.out.2.1, h.2.2.2.2.1, h.2.2.2.2.2.1 i hil, h.2.2.1, h.2.2.2.1 i hil⟩
                obtain ⟨si, hsi⟩ : ∃ z, z = S.getD i 0 := ⟨_, rfl⟩
                obtain ⟨ai, hai⟩ : ∃ z, z = A.getD i 0 := ⟨_, rfl⟩
                obtain ⟨bv, hbv⟩ : ∃ z, z = BL1 par E f a i ns := ⟨_, rfl⟩
                obtain ⟨bd, hbd⟩ : ∃ z, z = c.bend := ⟨_, rfl⟩
                simp only [← hsi, ← hai, ← hbv, ← hbd] at F1 sb ab bb KS4
                rw [← hbv]
                obtain ⟨fv, hfv⟩ : ∃ z, z = SLP bd bv si ai := ⟨_, rfl⟩
                have SLc : Hid (∀ U, Calls Tryz.prog 110 #[.int .i64 bd, .int .i64 bv, .int .i64 si, .int .i64 ai] U fun e w' => e = .returned (.int .i64 fv) ∧ Below U.heap.size U w') := fun U => by rw [hfv]; exact rslope_any bd bv si ai U bb sb ab
                rw [← hfv] at F1
                have SU : Hid ((List.range (i + 1)).map F = (List.range i).map F ++ [fv]) := by show _ = _; rw [List.range_succ, List.map_append, ← F1.out]; rfl
                obtain ⟨LS, hLS⟩ : ∃ z, z = (List.range i).map F := ⟨_, rfl⟩
                have LSl : LS.length = i := by rw [hLS]; simp
                rw [← hLS] at OT SU
                obtain ⟨ta, tc, htv, -⟩ := row_at OT.out
                subst htv
                have ls3 : Hid (LS.length + 1 ≤ maxLen) := by show _ ≤ _; unfold maxLen; omega
                have ls4 : Hid ((LS.length + 1) * 8 ≤ 140737488355328) := by show _ ≤ _; omega
                have s40 := KS4.out wr (Below.refl _ _)
                clear hsi hai hbv hbd hfv hLS LSl k3 F1 sb ab bb
                go_upto_region 40 with fail
                refine wp_region_held_drew (S := fun w' => w'.cell? ⟨Bc, 5, none⟩ = some (.int .i64 bd) ∧ w'.cell? ⟨gs, q, none⟩ = some (.slice (some ⟨gS, 0, none⟩) a sc) ∧ w'.cell? ⟨gS, i, none⟩ = some (.int .i64 si) ∧ w'.cell? ⟨ga, q, none⟩ = some (.slice (some ⟨gA, 0, none⟩) a ac) ∧ w'.cell? ⟨gA, i, none⟩ = some (.int .i64 ai)) (by kernel_rfl) s40 (fun hS => ?_)
                refine wpAnyH_take (i := 0) (oi := ⟨some 172, .fieldAddr 24 (.tmp 4) 2, 0, "train.go:299", #[], none⟩) (v := ?_) rfl (by kernel_rfl) (by kernel_rfl) (by kernel_rfl) (fun _ _ _ h => h) (Or.inl ⟨by kernel_rfl, ?_⟩) hS ?_
                rotate_left
                · intro w hSw; (try dsimp only at hSw); go_simp; (try with_reducible rfl)
                try go_frame
                refine wpAnyH_take (i := 1) (oi := ⟨some 173, .load 3 (.tmp 172), 3, "train.go:299", #[⟨0, .data⟩], none⟩) (v := ?_) rfl (by kernel_rfl) (by kernel_rfl) (by kernel_rfl) (fun _ _ _ h => h) (Or.inl ⟨by kernel_rfl, ?_⟩) hS ?_
                rotate_left
                · intro w hSw; (try dsimp only at hSw); go_simp; (try with_reducible rfl)
                try go_frame
                refine wpAnyH_take (i := 2) (oi := ⟨some 174, .move (.tmp 23), 3, "train.go:299", #[], none⟩) (v := ?_) rfl (by kernel_rfl) (by kernel_rfl) (by kernel_rfl) (fun _ _ _ h => h) (Or.inl ⟨by kernel_rfl, ?_⟩) hS ?_
                rotate_left
                · intro w hSw; (try dsimp only at hSw); go_simp; (try with_reducible rfl)
                try go_frame
                refine wpAnyH_take (i := 3) (oi := ⟨some 175, .move (.tmp 10), 128, "train.go:299", #[], none⟩) (v := ?_) rfl (by kernel_rfl) (by kernel_rfl) (by kernel_rfl) (fun _ _ _ h => h) (Or.inl ⟨by kernel_rfl, ?_⟩) hS ?_
                rotate_left
                · intro w hSw; (try dsimp only at hSw); go_simp; (try with_reducible rfl)
                try go_frame
                refine wpAnyH_take (i := 4) (oi := ⟨some 176, .move (.tmp 18), 3, "train.go:299", #[], none⟩) (v := ?_) rfl (by kernel_rfl) (by kernel_rfl) (by kernel_rfl) (fun _ _ _ h => h) (Or.inl ⟨by kernel_rfl, ?_⟩) hS ?_
                rotate_left
                · intro w hSw; (try dsimp only at hSw); go_simp; (try with_reducible rfl)
                try go_frame
                refine wpAnyH_take (i := 5) (oi := ⟨some 177, .binOp .sub 3 (.tmp 176) (.const (.int .i64 1)) 3, 3, "train.go:299", #[⟨4, .data⟩], none⟩) (v := ?_) rfl (by kernel_rfl) (by kernel_rfl) (by kernel_rfl) (fun _ _ _ h => h) (Or.inl ⟨by kernel_rfl, ?_⟩) hS ?_
                rotate_left
                · intro w hSw; (try dsimp only at hSw); go_simp; (try with_reducible rfl)
                try go_frame
                refine wpAnyH_take (i := 6) (oi := ⟨some 178, .indexAddr 128 (.tmp 175) (.tmp 177), 0, "train.go:299", #[⟨3, .data⟩, ⟨5, .data⟩], none⟩) (v := ?_) rfl (by kernel_rfl) (by kernel_rfl) (by kernel_rfl) (fun _ _ _ h => h) (Or.inl ⟨by kernel_rfl, ?_⟩) hS ?_
                rotate_left
                · intro w hSw; (try dsimp only at hSw); go_simp; (try with_reducible rfl)
                try go_frame
                refine wpAnyH_take (i := 7) (oi := ⟨some 179, .load 47 (.tmp 178), 47, "train.go:299", #[⟨6, .data⟩], none⟩) (v := ?_) rfl (by kernel_rfl) (by kernel_rfl) (by kernel_rfl) (fun _ _ _ h => h) (Or.inl ⟨by kernel_rfl, ?_⟩) hS ?_
                rotate_left
                · intro w hSw; (try dsimp only at hSw); go_simp; (try with_reducible rfl)
                try go_frame
                refine wpAnyH_take (i := 8) (oi := ⟨some 180, .move (.tmp 22), 3, "train.go:299", #[], none⟩) (v := ?_) rfl (by kernel_rfl) (by kernel_rfl) (by kernel_rfl) (fun _ _ _ h => h) (Or.inl ⟨by kernel_rfl, ?_⟩) hS ?_
                rotate_left
                · intro w hSw; (try dsimp only at hSw); go_simp; (try with_reducible rfl)
                try go_frame
                refine wpAnyH_take (i := 9) (oi := ⟨some 181, .indexAddr 47 (.tmp 179) (.tmp 180), 0, "train.go:299", #[⟨7, .data⟩, ⟨8, .data⟩], none⟩) (v := ?_) rfl (by kernel_rfl) (by kernel_rfl) (by kernel_rfl) (fun _ _ _ h => h) (Or.inl ⟨by kernel_rfl, ?_⟩) hS ?_
                rotate_left
                · intro w hSw; (try dsimp only at hSw); go_simp; (try with_reducible rfl)
                try go_frame
                refine wpAnyH_take (i := 10) (oi := ⟨some 182, .load 3 (.tmp 181), 3, "train.go:299", #[⟨9, .data⟩], none⟩) (v := ?_) rfl (by kernel_rfl) (by kernel_rfl) (by kernel_rfl) (fun _ _ _ h => h) (Or.inl ⟨by kernel_rfl, ?_⟩) hS ?_
                rotate_left
                · intro w hSw; (try dsimp only at hSw); go_simp; (try with_reducible rfl)
                try go_frame
                refine wpAnyH_take (i := 11) (oi := ⟨some 183, .move (.tmp 9), 128, "train.go:299", #[], none⟩) (v := ?_) rfl (by kernel_rfl) (by kernel_rfl) (by kernel_rfl) (fun _ _ _ h => h) (Or.inl ⟨by kernel_rfl, ?_⟩) hS ?_
                rotate_left
                · intro w hSw; (try dsimp only at hSw); go_simp; (try with_reducible rfl)
                try go_frame
                refine wpAnyH_take (i := 12) (oi := ⟨some 184, .move (.tmp 18), 3, "train.go:299", #[], none⟩) (v := ?_) rfl (by kernel_rfl) (by kernel_rfl) (by kernel_rfl) (fun _ _ _ h => h) (Or.inl ⟨by kernel_rfl, ?_⟩) hS ?_
                rotate_left
                · intro w hSw; (try dsimp only at hSw); go_simp; (try with_reducible rfl)
                try go_frame
                refine wpAnyH_take (i := 13) (oi := ⟨some 185, .binOp .sub 3 (.tmp 184) (.const (.int .i64 1)) 3, 3, "train.go:299", #[⟨12, .data⟩], none⟩) (v := ?_) rfl (by kernel_rfl) (by kernel_rfl) (by kernel_rfl) (fun _ _ _ h => h) (Or.inl ⟨by kernel_rfl, ?_⟩) hS ?_
                rotate_left
                · intro w hSw; (try dsimp only at hSw); go_simp; (try with_reducible rfl)
                try go_frame
                refine wpAnyH_take (i := 14) (oi := ⟨some 186, .indexAddr 128 (.tmp 183) (.tmp 185), 0, "train.go:299", #[⟨11, .data⟩, ⟨13, .data⟩], none⟩) (v := ?_) rfl (by kernel_rfl) (by kernel_rfl) (by kernel_rfl) (fun _ _ _ h => h) (Or.inl ⟨by kernel_rfl, ?_⟩) hS ?_
                rotate_left
                · intro w hSw; (try dsimp only at hSw); go_simp; (try with_reducible rfl)
                try go_frame
                refine wpAnyH_take (i := 15) (oi := ⟨some 187, .load 47 (.tmp 186), 47, "train.go:299", #[⟨14, .data⟩], none⟩) (v := ?_) rfl (by kernel_rfl) (by kernel_rfl) (by kernel_rfl) (fun _ _ _ h => h) (Or.inl ⟨by kernel_rfl, ?_⟩) hS ?_
                rotate_left
                · intro w hSw; (try dsimp only at hSw); go_simp; (try with_reducible rfl)
                try go_frame
                refine wpAnyH_take (i := 16) (oi := ⟨some 188, .move (.tmp 22), 3, "train.go:299", #[], none⟩) (v := ?_) rfl (by kernel_rfl) (by kernel_rfl) (by kernel_rfl) (fun _ _ _ h => h) (Or.inl ⟨by kernel_rfl, ?_⟩) hS ?_
                rotate_left
                · intro w hSw; (try dsimp only at hSw); go_simp; (try with_reducible rfl)
                try go_frame
                refine wpAnyH_take (i := 17) (oi := ⟨some 189, .indexAddr 47 (.tmp 187) (.tmp 188), 0, "train.go:299", #[⟨15, .data⟩, ⟨16, .data⟩], none⟩) (v := ?_) rfl (by kernel_rfl) (by kernel_rfl) (by kernel_rfl) (fun _ _ _ h => h) (Or.inl ⟨by kernel_rfl, ?_⟩) hS ?_
                rotate_left
                · intro w hSw; (try dsimp only at hSw); go_simp; (try with_reducible rfl)
                try go_frame
                refine wpAnyH_take (i := 18) (oi := ⟨some 190, .load 3 (.tmp 189), 3, "train.go:299", #[⟨17, .data⟩], none⟩) (v := ?_) rfl (by kernel_rfl) (by kernel_rfl) (by kernel_rfl) (fun _ _ _ h => h) (Or.inl ⟨by kernel_rfl, ?_⟩) hS ?_
                rotate_left
                · intro w hSw; (try dsimp only at hSw); go_simp; (try with_reducible rfl)
                try go_frame
                refine wpAnyH_ready (rs := [19]) (by kernel_rfl) (by simp) ?_
                refine AllReadyH.cons (o := ⟨some 191, .call { callee := .value (.func 110), args := #[.tmp 173, .tmp 174, .tmp 182, .tmp 190], argTypes := #[3, 3, 3, 3] }, 3, "train.go:299", #[⟨1, .data⟩, ⟨2, .data⟩, ⟨10, .data⟩, ⟨18, .data⟩], none⟩) rfl (fun K hK => ?_) AllReadyH.nil
                go_simp
                refine (SLc.out _).mono ?_
                rintro e x1 ⟨rfl, c1⟩
                have X1 : Hid (Below wr.heap.size wr x1) := ((Below.refl _ _).drew).trans c1
                clear c1 hS
                go_wp2_with fail
                refine hK.out _ _ (KS4.out _ X1.out) (fun hS => ?_)
                try go_frame
                clear hK K
                refine wpAnyH_take (i := 20) (oi := ⟨some 25, .assign (.tmp 191), 3, "train.go:299", #[⟨19, .data⟩, ⟨19, .chain⟩, ⟨0, .phase⟩, ⟨1, .phase⟩, ⟨2, .phase⟩, ⟨3, .phase⟩, ⟨4, .phase⟩, ⟨5, .phase⟩, ⟨6, .phase⟩, ⟨7, .phase⟩, ⟨8, .phase⟩, ⟨9, .phase⟩, ⟨10, .phase⟩, ⟨11, .phase⟩, ⟨12, .phase⟩, ⟨13, .phase⟩, ⟨14, .phase⟩, ⟨15, .phase⟩, ⟨16, .phase⟩, ⟨17, .phase⟩, ⟨18, .phase⟩, ⟨19, .phase⟩], none⟩) (v := ?_) rfl (by kernel_rfl) (by kernel_rfl) (by kernel_rfl) (fun _ _ _ h => h) (Or.inl ⟨by kernel_rfl, ?_⟩) hS ?_
                rotate_left
                · intro w hSw; (try dsimp only at hSw); go_simp; (try with_reducible rfl)
                try go_frame
                refine wpAnyH_done (by kernel_rfl) ?_ _
                clear hS s40 k4
                have Y1 : Hid (Below wj.heap.size wj x1) := B13.out.trans (X1.out.mono B13.out.size)
                have OY : Hid (OutI x1 wj.heap.size (.slice ta LS.length tc) LS) := owns_below (owns_below OT.out B12.out) X1.out
                go_wp2_with (first
                 | (at_builtin; refine wpList_append_lies _ rfl _ _ 47 rfl wj.heap.size 3 j0 _ 1 8 Tryz.underlying47 INF.out.1 INF.out.2.1 INF.out.2.2.1 INF.out.2.2.2 rfl (by decide) _ _ _ rfl (World.ownsRow.alloc OY.out _) ⟨x1.heap.size, 0, none⟩ 1 1 [.int .i64 fv] rfl rfl (one_cell3 _ _ rfl _) (one_c _ rfl) (by decide) ls3.out ls4.out (Nat.le_trans Y1.out.size (by simp)) _ rfl ?_
                    intro g3 cap3 x5 hown hgrow hat hlt2
                    have O5 : Hid (OutI x5 wj.heap.size (.slice (some ⟨g3, 0, none⟩) (LS.length + 1) cap3) (LS ++ [fv])) := by
                     show World.ownsRow _ _ _ _ _ _ _
                     rw [← ints_app, List.length_append]; exact hown
                    have E5 : Hid (Below wj.heap.size wj x5) := (Y1.out.alloc Y1.out.size _).grown hgrow (Nat.le_trans Y1.out.size (by simp)) fun b hb => (World.ownsRow.lt OY.out b hb).1
                    clear hown hgrow hat hlt2))
                go_roundw
                case rel => exact ⟨i + 1, by omega, by go_num, by rw [SU.out]; exact O5.out, E5.out⟩
                case measure => simp [intOf]; omega
           · have hie : a = i := by omega
             obtain ⟨ta, tc, htv, -⟩ := row_at OT.out
             rw [show ((List.range i).map F).length = i by simp] at htv
             subst htv
             have R1 : Hid (OutI wi w2.heap.size (.slice ta i tc) (ER c par x y m (m - r))) := by
              rw [ER1.out, hie]
              exact Go.Joins.ownsRow_le OT.out (Nat.le_trans UW.out.size UJ.out.size)
             have R2 : Hid (wi.heap[G]? = some (.cells (i64s (GP c par x y m (m - r))) 3 (0, 0))) := by
              show _ = _
              rw [show m - r = m - q + 1 by have := HR.out; omega]
              exact (BT.out.block _ (lt_of_heap GN.out)).trans GN.out
             have R3 : Hid (But (fun k => k = G) w2 wi) := (UW.out.trans UJ.out).trans (But.below BT.out)
             have nil : ¬ ((i : Int) < (a : Int)) := by omega
             clear hie hil
             go_wp2
             go_roundw
             case rel => exact ⟨r, by have := HR.out; omega, by rw [show (q : Int) = (r : Int) + 1 by have := HR.out; omega], R1.out, R2.out, R3.out⟩
             case measure => simp [intOf]
end Go.Proofs.YtoihkljlekknkaaGreat
