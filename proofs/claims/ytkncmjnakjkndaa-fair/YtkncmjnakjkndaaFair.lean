/-
  'tutorkeep.Fair' is true for every configuration and every two whole numbers: in each epoch each sample comes once (P8). No condition.
-/
import Derived.Test.YtkncmjnakjkndaaRows
import Derived.WalkKit
import Derived.ProofKit
import Derived.OpenShut
import Derived.ShutString
import Derived.Carry
import Derived.Deep.MidRow
import Derived.Test.YtkncmjnakjkndaaPk3
import Derived.Test.YtkncmjnakjkndaaCfg
namespace Go.Proofs.Ytkncmjnakjkndaa
namespace Fair
open Go.ChangeShapes Go.WideShapes Go.ChangeAt Go.RowKit
open Go.ChangeMaps (open_string shut_string)
set_option linter.unusedSimpArgs false
set_option linter.unusedVariables false

theorem own : ownKnob Try.prog.godebug = none := by kernel_rfl
/-- which of m numbers a raw number speaks of -/
def kp (c m : Int) : Int := (if c < 0 then -(c + 1) else c) % m
theorem kp_bd (c m : Int) (h : 0 < m) : 0 ≤ kp c m ∧ kp c m < m := ⟨Int.emod_nonneg _ (by omega), Int.emod_lt_of_pos _ h⟩
set_option maxHeartbeats 400000 in
theorem kp_any (c m : Int) (w : World) (h0 : -9223372036854775808 ≤ c) (h1 : c ≤ 9223372036854775807) (hm : 0 < m) (hm1 : m ≤ 9223372036854775807) :
    Calls Try.prog 41 #[.int .i64 c, .int .i64 m] w fun e w' => e = .returned (.int .i64 (kp c m)) ∧ w' = w := by
  have z : (m == 0) = false := by simp; omega
  unfold kp
  by_cases h : c < 0
  · rw [if_pos h]
    have b := Int.tmod_lt_of_pos (-(c + 1)) hm
    have b0 := Int.tmod_nonneg m (show 0 ≤ -(c + 1) by omega)
    have E : Hid ((-(c + 1)).tmod m = -(c + 1) % m) := Int.tmod_eq_emod_of_nonneg (by omega)
    go_enter Try.func41, Try.ntmps41
    go_wp2
    go_ret
    refine ⟨congrArg Ending.returned (congrArg (Value.int IntKind.i64) ?_), rfl⟩
    rw [← E.out, ← Int.neg_tmod]
  · rw [if_neg h]
    have E : Hid (c.tmod m = c % m) := Int.tmod_eq_emod_of_nonneg (by omega)
    go_enter Try.func41, Try.ntmps41
    go_wp2
    go_ret
    exact ⟨rfl, rfl⟩
theorem Try.infoB : (Try.prog.info? 4).map (fun i => (i.zero, i.size, i.bytes)) = some (some (.bool false), 1, 1) := by kernel_rfl
def bools (l : List Bool) : List Value := l.map Value.bool
theorem bools_at (l : List Bool) (j : Nat) (h : j < l.length) : (bools l)[j]? = some (.bool (l.getD j false)) := by
  simp [bools, List.getD_eq_getElem?_getD, List.getElem?_eq_getElem h]
theorem bools_set (l : List Bool) (j : Nat) (x : Bool) : (bools l).set j (.bool x) = bools (l.set j x) := by simp [bools, List.map_set]
theorem bools_zero (n : Nat) : (madeCells #[Value.bool false] n).toList = bools (List.replicate n false) := by
  rw [toList_madeCells_one]
  simp [bools]
theorem getB_set (l : List Bool) (i j : Nat) (x : Bool) : (l.set i x).getD j false = if i = j ∧ i < l.length then x else l.getD j false := by
  rw [List.getD_eq_getElem?_getD, List.getD_eq_getElem?_getD, List.getElem?_set]
  by_cases h : i = j
  · subst h
    by_cases h' : i < l.length
    · simp [h']
    · simp [h']
  · simp [h]
theorem below_grown {w w' : World} (h : Below w.heap.size w w') : w.grownBy w' none := ⟨h.os, h.tape, h.output, h.size, fun k hk _ => h.block k hk⟩
theorem range_below {w w' : World} {b o : Nat} {cs : List Value} (h : w.rangeAt b o cs) (hb : Below w.heap.size w w') (hlt : b < w.heap.size) : w'.rangeAt b o cs :=
  fun j v hv => (hb.cell (p := ⟨b, o + j, none⟩) hlt).trans (h j v hv)
theorem range_set {w : World} {b o : Nat} {cs : List Value} (h : w.rangeAt b o cs) (g i : Nat) (x : Value) (hne : b ≠ g) : (w.setCell ⟨g, i, none⟩ x).rangeAt b o cs :=
  fun j v hv => by rw [World.cell?_of_block (w := w) (Below.heap_setCell w ⟨g, i, none⟩ x b hne)]; exact h j v hv
/-- what stands at a place of an epoch -/
theorem pick_at (seed : Int) (n k : Nat) (e : Int) (h0 : 1 ≤ n) (h1 : n ≤ 16) (h2 : 0 ≤ e) (hk : k < n) : PICK seed n (e * n + k) = (ROW (MIX ((seed + e) % 4294967296)) n).getD k 0 := by
  have hp : 0 ≤ e * (n : Int) := Int.mul_nonneg h2 (by omega)
  rw [PICK_in seed n _ h0 h1 (by omega)]
  have e1 : (e * (n : Int) + k) / n = e := by
    rw [Int.add_comm, Int.add_mul_ediv_right _ _ (by omega), Int.ediv_eq_zero_of_lt (by omega) (by omega)]; omega
  have e2 : (e * (n : Int) + k) % n = k := by
    rw [Int.add_comm, Int.add_mul_emod_self_right, Int.emod_eq_of_lt (by omega) (by omega)]
  rw [e1, e2]
  rfl
set_option maxHeartbeats 2000000 in
set_option maxRecDepth 100000 in
theorem walk (cs : Array Value) (seed : Int) (hsz : cs.size = 20) (hc : cs[14]? = some (.int .u32 seed)) (hs0 : 0 ≤ seed) (hs1 : seed < 4294967296) (a1 : Int) (a2 : Int) (w1 : (Lit.int .i64 a1).wf = true) (w2 : (Lit.int .i64 a2).wf = true) (w : World) :
    Calls Try.prog 13 #[.agg cs, .int .i64 a1, .int .i64 a2] w fun e w' => e = .returned (.bool true) ∧ Below w.heap.size w w' := by
  have wb1 := bounds_i64 w1
  have wb2 := bounds_i64 w2
  obtain ⟨i0, hi, hz0, hz1, hz2⟩ := info_parts Try.infoB
  obtain ⟨K, hK⟩ : ∃ K, kp a1 16 = K := ⟨_, rfl⟩
  have Kb := kp_bd a1 16 (by omega)
  rw [hK] at Kb
  obtain ⟨n, hn⟩ : ∃ n : Nat, 1 + K = (n : Int) := ⟨(1 + K).toNat, by omega⟩
  have n0 : 1 ≤ n := by omega
  have n1 : n ≤ 16 := by omega
  obtain ⟨e, he⟩ : ∃ e, kp a2 1099511627776 = e := ⟨_, rfl⟩
  have eb := kp_bd a2 1099511627776 (by omega)
  rw [he] at eb
  obtain ⟨eb0, eb1⟩ := eb
  obtain ⟨P, hP⟩ : ∃ P, e * (n : Int) = P := ⟨_, rfl⟩
  have P0 : 0 ≤ P := by rw [← hP]; exact Int.mul_nonneg eb0 (by omega)
  have P1 : P ≤ 1099511627776 * 16 := by rw [← hP]; exact Int.mul_le_mul (by omega) (by omega) (by omega) (by omega)
  obtain ⟨W, hW⟩ : ∃ W, W = w.alloc (.cells cs 58) := ⟨_, rfl⟩
  have BA : Hid (Below w.heap.size w W) := by show Below _ _ _; rw [hW]; exact (Below.refl _ _).alloc (Nat.le_refl _) _
  have RA : Hid (W.rangeAt w.heap.size 0 cs.toList) := by
    show World.rangeAt _ _ _ _
    intro j v hv
    rw [hW, World.cell?_alloc_mark]
    simpa using hv
  have WS : Hid (W.heap.size = w.heap.size + 1) := by show _ = _; rw [hW]; simp
  have HW : Hid _ := hW.symm
  clear hW
  obtain ⟨key, hkey⟩ : ∃ key, key = MIX ((seed + e) % 4294967296) := ⟨_, rfl⟩
  have PK : Hid (∀ k : Nat, k < n → PICK seed n (P + k) = (ROW key n).getD k 0) := by
    show ∀ k : Nat, k < n → _
    intro k hk; rw [← hP, hkey]; exact pick_at seed n k e n0 n1 eb0 hk
  clear hkey
  have INF : Hid _ := And.intro hi (And.intro hz0 (And.intro hz1 hz2))
  clear hi hz0 hz1 hz2
  go_enter Try.func13, Try.ntmps13
  go_wp2_with (first | (go_at_call 41; refine (kp_any _ _ _ (by omega) (by omega) (by omega) (by omega)).mono ?_; rintro ee w' ⟨rfl, hw'⟩; subst w'; first | rw [hK] | rw [he]) | (at_make; refine wpList_make_full _ rfl _ _ 65 rfl w.heap.size 4 i0 _ 1 Try.underlying65 INF.out.1 INF.out.2.1 INF.out.2.2.1 _ _ _ _ n rfl rfl rfl rfl (by rw [INF.out.2.2.2]; omega) (by unfold maxLen; omega) (by simp) ?_))
  rw [HW.out]
  intro wm hown hgr
  rw [bools_zero] at hown
  have BW1 : Hid (Below w.heap.size w wm) := BA.out.grown hgr BA.out.size (by simp)
  have RA1 : Hid (wm.rangeAt w.heap.size 0 cs.toList) := range_below RA.out (by obtain ⟨g1, g2, g3, g4, g5⟩ := hgr; exact ⟨g1, g2, g3, g4, fun k hk => g5 k hk (by simp)⟩) (by rw [WS.out]; omega)
  have OW1 : Hid _ := hown
  clear hown hgr RA BA
  go_wp2
  go_loopw [10] (fun iv wr => ∃ k : Nat, k ≤ n ∧ iv = .int .i64 k ∧ ∃ l : List Bool, Hid (l.length = n) ∧ Hid (∀ v : Nat, l.getD v false = true → ∃ i, i < k ∧ (ROW key n).getD i 0 = (v : Int)) ∧ Hid (wr.ownsRow w.heap.size 4 1 (.slice (some ⟨w.heap.size + 1, 0, none⟩) n n) n (bools l)) ∧ Hid (wr.rangeAt w.heap.size 0 cs.toList) ∧ Hid (Below w.heap.size w wr)) (fun iv _ => n - (intOf iv).toNat)
  case atStart => exact ⟨0, by omega, rfl, _, by show _ = _; simp, fun v h => by simp [List.getD_eq_getElem?_getD, List.getElem?_replicate] at h; split at h <;> simp at h, OW1.out, RA1.out, BW1.out⟩
  case round =>
    clear RA1 OW1 BW1
    obtain ⟨k, hk, rfl, l, LL, LI, OW, RA, BW⟩ := hrel
    by_cases hlt : k < n
    · have mem := ROW_mem key n (by omega) k hlt
      obtain ⟨X, hX⟩ : ∃ X : Nat, (ROW key n).getD k 0 = (X : Int) := ⟨((ROW key n).getD k 0).toNat, by omega⟩
      rw [hX] at mem
      have Xn : X < n := by omega
      have xl : (X : Int) < (n : Int) := by omega
      have PX : PICK seed n (P + k) = (X : Int) := by rw [PK.out k hlt, hX]
      have FR : Hid (l.getD X false = false) := by
        show _ = _
        cases hq : l.getD X false with
        | false => rfl
        | true =>
          obtain ⟨i, hi, hx⟩ := LI.out X hq
          have := ROW_inj key n (by omega) i k (by omega) hlt (by rw [hx, hX])
          omega
      have ltS : Hid (w.heap.size + 1 < wr.heap.size) := (OW.out.lt _ rfl).2
      clear mem hX
      have HX : Hid ((ROW key n).getD k 0 = (X : Int)) := by show _ = _; rw [← PK.out k hlt]; exact PX
      have HSZ : Hid (cs.toList.length = 20) := by show _ = _; rw [Array.length_toList]; exact hsz
      go_wp2_with (first
        | (go_at_call 55; refine (pick_any cs seed _ _ _ hsz hc hs0 hs1 (by omega)).mono ?_; rintro ee w2 ⟨rfl, hb⟩; rw [PX]
           have OW2 : Hid (w2.ownsRow w.heap.size 4 1 (.slice (some ⟨w.heap.size + 1, 0, none⟩) n n) n (bools l)) := OW.out.kept (below_grown hb) (Or.inr (by simp [Value.ownBlock]))
           have RA2 : Hid (w2.rangeAt w.heap.size 0 cs.toList) := range_below RA.out hb (by have := ltS.out; omega)
           have BW2 : Hid (Below w.heap.size w w2) := BW.out.trans (hb.mono BW.out.size)
           have cx : w2.cell? ⟨w.heap.size + 1, X, none⟩ = some (.bool false) := by rw [OW2.out.cellAt X (by omega), bools_at l X (by rw [LL.out]; omega), FR.out]
           have fx := OW2.out.frozenAt X
           clear hb)
        | (refine wpList_load_mid rfl 58 _ rfl w.heap.size 0 rfl cs.toList _ RA.out Try.underlying58 rfl (by rw [HSZ.out]; kernel_rfl) ?_; rw [Array.toArray_toList]))
      go_roundw
      case rel =>
        refine ⟨k + 1, by omega, by go_num, l.set X true, by show _ = _; rw [List.length_set]; exact LL.out, fun v hv => ?_, ?_, range_set RA2.out _ _ _ (by omega), BW2.out.setCell (p := ⟨w.heap.size + 1, _, none⟩) (by show _ ≤ w.heap.size + 1; omega) _⟩
        · rw [getB_set] at hv
          by_cases ee : X = v
          · exact ⟨k, by omega, by rw [HX.out, ee]⟩
          · rw [if_neg (fun h => ee h.1)] at hv
            obtain ⟨i, hi, hx⟩ := LI.out v hv
            exact ⟨i, by omega, hx⟩
        · have := (OW2.out.stored X (.bool true)).1
          rw [bools_set] at this
          exact this
      case measure => simp [intOf]; omega
    · clear LI OW RA
      go_wp2
      go_ret
      exact ⟨rfl, BW.out⟩
/-! ### THE ROW's STEP: WRITTEN OUT: LEAVE IT -/
set_option maxRecDepth 100000 in
theorem lifted (os : Os) (started : os.Started) (H : Type) (enc : TypeId × Value → H) :
    ReturnsInHanded {} Try.checked os 13 .any (Rows.fairSpec.pre6 enc Try.prog Try.f13 Rows.fairRow.domain false) (Rows.fairSpec.post enc Try.prog Try.f13 false true false false) := by
  refine returnsInHanded_of_change (C := Try.checked) own started (by kernel_rfl) Try.func13
    (ChangeSpec.witness6 (enc := enc) (C := Try.checked) false ⟨#[], #[.agg #[.int .i64 0, .int .i64 0, .int .i64 0, .int .i64 0, .int .i64 0, .int .i64 0, .int .i64 0, .int .i64 0, .int .i64 0, .int .i64 0, .int .i64 0, .int .i64 0, .int .i64 0, .int .i64 0, .int .u32 0, .int .u32 0, .int .u32 0, .int .u32 0, .int .u32 0, .int .u32 0], .int .i64 0, .int .i64 0], []⟩ 8 (by kernel_rfl) (by kernel_rfl) (by kernel_rfl) (by kernel_rfl)) ?_
  intro W base args ds gs before hval0 hW hcnd _
  have hval : ∀ (j : Nat) t v, Try.f13.params[j]? = some t → args[j]? = some v → Value.okWide Try.prog W .any base t v := hval0
  have hW' := hW
  obtain ⟨p, q, hA0, hV, rfl, hfz, hnd⟩ := hW
  have hA : DataW.TrodAll enc Try.prog W 0 (fun _ => true) true Try.f13.params.toList args.toList ds p := hA0
  rw [Try.params13] at hA hval
  obtain ⟨v0, vs0, d0, ds0, p0, q0, hargs, rfl, rfl, h0, r0⟩ := trodAll_cons hA
  obtain ⟨v1, vs1, d1, ds1, p1, q1, rfl, rfl, rfl, h1, r1⟩ := trodAll_cons r0
  obtain ⟨v2, vs2, d2, ds2, p2, q2, rfl, rfl, rfl, h2, r2⟩ := trodAll_cons r1
  obtain ⟨rfl, rfl, rfl⟩ := trodAll_nil r2
  obtain rfl : args = #[v0, v1, v2] := by cases args; simp_all
  obtain ⟨rfl, rfl⟩ := trodVars_none hV
  obtain ⟨a1, rfl, rfl, rfl, w1⟩ := open_int Try.underlying3 (hval 1 3 v1 rfl rfl) h1
  obtain ⟨a2, rfl, rfl, rfl, w2⟩ := open_int Try.underlying3 (hval 2 3 v2 rfl rfl) h2
  obtain ⟨cs, seed, rfl, hsz, hc, hs0, hs1⟩ := cfg_seed (hval 0 58 v0 rfl rfl) h0
  clear hA0 hval0
  simp only [List.append_nil] at hW'
  have hlt : ∀ x ∈ p0, x.block < W.heap.size := fun x hx => by simpa using hW'.lt x (by simpa using hx)
  refine (walk cs seed hsz hc hs0 hs1 a1 a2 w1 w2 W).mono fun e W' ⟨he, bel⟩ => ?_
  subst he
  exact ⟨_, rfl, _, _, _, [], p0, [], hW', (trodAll_cons_mk (shut_bool Try.underlying4 _) trodAll_mk0), (by have := trodAll_cons_mk (Below.trod Try.laidOut (by kernel_rfl) (of_decide_eq_true (by kernel_rfl)) h0 bel hlt) (trodAll_cons_mk (shut_int Try.underlying3 w1) (trodAll_cons_mk (shut_int Try.underlying3 w2) trodAll_mk0)); simp only [List.append_nil] at this; exact this), rfl, bel.frame _, fun h => by cases h⟩

theorem over : Rows.fairRow.holds Try.pinned (OpenSpec.ofChange Rows.fairSpec) :=
  OpenClaim.holds_of_wide 13 Try.f13 rfl rfl rfl rfl rfl rfl rfl ⟨rfl, rfl, rfl, rfl, rfl⟩ rfl rfl rfl rfl rfl (by kernel_rfl) Try.func13 (by kernel_rfl)
    (of_decide_eq_true (by kernel_rfl)) (by unfold Func.isWrapper; first | (rw [if_pos (by decide +kernel)]; kernel_rfl) | (rw [if_neg (by decide +kernel)]; exact ⟨rfl, rfl⟩))
    (fun os started H enc _ => lifted os started H enc)

end Fair
/-- THE STATEMENT -/
theorem fair_proved : Rows.FairSaid := Fair.over
end Go.Proofs.Ytkncmjnakjkndaa
