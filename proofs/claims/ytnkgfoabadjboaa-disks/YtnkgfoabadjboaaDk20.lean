/-
  The document's list of names behind a change, walked. Conditions: the entries are there; fewer than 2^41.
-/
import Derived.Test.YtnkgfoabadjboaaDk19
namespace Go.Proofs.Ytnkgfoabadjboaa
open Go.RowKit
set_option linter.unusedVariables false
set_option linter.unusedSimpArgs false
theorem RP_false {g n : ByteArray} {o : Option Nat} {L : List Ent} {q : Nat} (h : RP (g, n, o) L q = false) : ∃ i, o = some i := by
  cases o with
  | none => unfold RP at h; rw [roundsR_none (g, n, none) rfl] at h; cases h
  | some i => exact ⟨i, rfl⟩
theorem step_skip {c : Chg} {out : List Ent} {p : Bool} {e : Ent} (h : sm e.1 c.1 = true ∨ sm e.1 c.2.1 = true) : stepR c (out, p) e = (out, p) := by unfold stepR; rw [if_pos h]
theorem step_put {c : Chg} {out : List Ent} {e : Ent} (h : ¬ (sm e.1 c.1 = true ∨ sm e.1 c.2.1 = true)) : stepR c (out, true) e = (out ++ [e], true) := by unfold stepR; rw [if_neg h, if_neg (by simp)]
theorem step_new {c : Chg} {out : List Ent} {e : Ent} (h : ¬ (sm e.1 c.1 = true ∨ sm e.1 c.2.1 = true)) (hl : ltN c.2.1 e.1 = true) : stepR c (out, false) e = (out ++ [(c.2.1, c.2.2.getD 0)] ++ [e], true) := by unfold stepR; rw [if_neg h, if_pos ⟨rfl, hl⟩]
theorem step_old {c : Chg} {out : List Ent} {e : Ent} (h : ¬ (sm e.1 c.1 = true ∨ sm e.1 c.2.1 = true)) (hl : ltN c.2.1 e.1 = false) : stepR c (out, false) e = (out ++ [e], false) := by unfold stepR; rw [if_neg h, if_neg (by rw [hl]; simp)]
theorem slice_at {w : World} {bs : Nat} {t : TypeId} {sz n : Nat} {v : Value} {xs : List Value} (h : w.ownsRow bs t sz v n xs) : ∃ a c, v = .slice a n c ∧ (0 < n → ∃ g, a = some ⟨g, 0, none⟩) := slice_len h
theorem R_end (c : Chg) (L : List Ent) (q : Nat) (hq : L.length ≤ q) : (RP c L q = true → RD c L q = turnN L c) ∧ (RP c L q = false → ∀ i, c.2.2 = some i → RD c L q ++ [(c.2.1, i)] = turnN L c) := by
  have e : L.take q = L := List.take_of_length_le hq
  unfold RP RD
  rw [e]
  cases ho : c.2.2 with
  | none =>
    rw [roundsR_none c ho]
    exact ⟨fun _ => rfl, fun h => by cases h⟩
  | some i =>
    have h := roundsR_some c i ho L
    constructor
    · intro hp
      rw [if_pos hp] at h
      exact h
    · intro hp j hj
      rw [if_neg (by rw [hp]; simp)] at h
      injection hj with hj
      rw [← hj]
      exact h
theorem afterQ {w wr : World} {v : Value} {l : List Ent} {g n x : ByteArray} {f : Int} {ga q j : Nat} (h1 : OutR wr (w.heap.size + 1) v l) (h2 : wr.heap[w.heap.size]? = some (.cells #[.string g, .string n, .int .i64 f] 131 (0, 0))) (h3 : Below w.heap.size w wr) (h4 : w.heap.size + 1 ≤ wr.heap.size) (h5 : wr.cell? ⟨ga, q * 2, none⟩ = some (.string x)) (h6 : wr.cell? ⟨ga, q * 2 + 1, none⟩ = some (.int .i64 (j : Int))) (k k2 : Nat) :
    ∃ W2, (wr.drewN k).drewN k2 = W2 ∧ OutR W2 (w.heap.size + 1) v l ∧ W2.heap[w.heap.size]? = some (.cells #[.string g, .string n, .int .i64 f] 131 (0, 0)) ∧ Below w.heap.size w W2 ∧ w.heap.size + 1 ≤ W2.heap.size ∧ W2.cell? ⟨ga, q * 2, none⟩ = some (.string x) ∧ W2.cell? ⟨ga, q * 2 + 1, none⟩ = some (.int .i64 (j : Int)) :=
  ⟨_, rfl, owns_same h1 fun _ _ => rfl, h2, (h3.trans (Go.Joins.below_draws _ _ _)).trans (Go.Joins.below_draws _ _ _), h4, h5, h6⟩
set_option maxHeartbeats 8000000 in
set_option maxRecDepth 100000 in
theorem turned_any2 (v : Value) (L : List Ent) (g n : ByteArray) (o : Option Nat) (w : World) (h : OutR w 0 v L) (hl : L.length < 2199023255553) :
    Calls Try.prog 133 #[v, .agg #[.string g, .string n, .int .i64 (fileI o)]] w fun e w' => ∃ v', e = .returned v' ∧ OutR w' (w.heap.size + 1) v' (turnN L (g, n, o)) ∧ Below w.heap.size w w' := by
  obtain ⟨va, vcap, rfl, hva⟩ := slice_len h
  have HH : Hid (OutR w 0 (.slice va L.length vcap) L) := h
  have HVA : Hid (0 < L.length → ∃ g, va = some ⟨g, 0, none⟩) := hva
  obtain ⟨c, hc⟩ : ∃ c : Chg, c = (g, n, o) := ⟨_, rfl⟩
  have HC : Hid _ := hc
  obtain ⟨f, hf⟩ : ∃ f, f = fileI o := ⟨_, rfl⟩
  have HF : Hid _ := hf
  have fb1 : -1 ≤ f := by rw [hf]; unfold fileI; cases o <;> simp
  obtain ⟨W, hW⟩ : ∃ W, w.alloc (.cells #[.string g, .string n, .int .i64 f] 131) = W := ⟨_, rfl⟩
  have b0 : W.heap[w.heap.size]? = some (.cells #[.string g, .string n, .int .i64 f] 131 (0, 0)) := by rw [← hW]; exact heap_alloc_new w _
  have BE : Hid (Below w.heap.size w W) := by show Below _ _ _; rw [← hW]; exact (Below.refl _ _).alloc (Nat.le_refl _) _
  have WS : Hid (W.heap.size = w.heap.size + 1) := by show _ = _; rw [← hW]; simp
  have B0 : Hid _ := b0
  have HW : Hid _ := hW
  have x2 : W.cell? ⟨w.heap.size, 2, none⟩ = some (.int .i64 f) := cell_in b0 2 _ rfl
  obtain ⟨nn, hnn⟩ : ∃ nn, nn = L.length := ⟨_, rfl⟩
  have HNN : Hid _ := hnn
  obtain ⟨i0, hi, hz0, hz1, hz2⟩ := info_parts Try.infoR
  have INF : Hid _ := And.intro hi (And.intro hz0 (And.intro hz1 hz2))
  have PF : Hid (decide (f < 0) = RP c L 0) := by
    show _ = _
    rw [(R_zero c L).2, hc, hf]
    cases o with
    | none => rfl
    | some i => unfold fileI; simp
  rw [← hf, ← hc, ← hnn]
  rw [← hnn] at hl
  clear h hva hc hf b0 hW hnn hi hz0 hz1 hz2
  go_enter Try.func133, Try.ntmps133
  go_upto_region 2 with fail
  rw [HW.out]
  go_wp2
  go_loopw [5, 6, 7] (fun ov pv iv wr => ∃ q : Nat, q ≤ nn ∧ iv = .int .i64 q ∧ pv = .bool (RP c L q) ∧ Hid (OutR wr (w.heap.size + 1) ov (RD c L q)) ∧ Hid (wr.heap[w.heap.size]? = some (.cells #[.string g, .string n, .int .i64 f] 131 (0, 0))) ∧ Hid (Below w.heap.size w wr) ∧ Hid (w.heap.size + 1 ≤ wr.heap.size)) (fun _ _ iv _ => nn - (intOf iv).toNat)
  case atStart => exact ⟨0, by omega, rfl, by rw [← PF.out], by show OutR _ _ _ _; rw [(R_zero c L).1]; exact World.ownsRow_nil _ _ _ _, B0.out, BE.out, by show _ ≤ _; rw [WS.out]; exact Nat.le_refl _⟩
  case round =>
    clear x2 PF
    obtain ⟨q, hq, rfl, rfl, OW, BX, BW, HS1⟩ := hrel
    by_cases hlt : q < nn
    · have hq2 : q < L.length := by rw [← HNN.out]; exact hlt
      obtain ⟨ga, rfl⟩ := HVA.out (by omega)
      obtain ⟨a0, a1⟩ := flatR_at L q hq2
      have ST : Hid _ := R_step c L q hq2
      obtain ⟨x, j, hxj⟩ : ∃ x j, L.getD q dN = (x, j) := ⟨_, _, rfl⟩
      rw [hxj] at a0 a1 ST
      simp only at a0 a1
      have RW : w.ownsRow 0 127 2 (.slice (some ⟨ga, 0, none⟩) L.length vcap) L.length (flatR L) := HH.out
      have hgl : ga < w.heap.size := (RW.lt ga rfl).2
      have d0 : wr.cell? ⟨ga, q * 2, none⟩ = some (.string x) := (BW.out.cell (p := ⟨ga, q * 2, none⟩) hgl).trans ((RW.cellAt (q * 2) (by omega)).trans a0)
      have d1 : wr.cell? ⟨ga, q * 2 + 1, none⟩ = some (.int .i64 (j : Int)) := (BW.out.cell (p := ⟨ga, q * 2 + 1, none⟩) hgl).trans ((RW.cellAt (q * 2 + 1) (by omega)).trans a1)
      have HE0 : Hid (w.cell? ⟨ga, q * 2, none⟩ = some (.string x)) := (RW.cellAt (q * 2) (by omega)).trans a0
      have HE1 : Hid (w.cell? ⟨ga, q * 2 + 1, none⟩ = some (.int .i64 (j : Int))) := (RW.cellAt (q * 2 + 1) (by omega)).trans a1
      have x0 : wr.cell? ⟨w.heap.size, 0, none⟩ = some (.string g) := cell_in BX.out 0 _ rfl
      have x1 : wr.cell? ⟨w.heap.size, 1, none⟩ = some (.string n) := cell_in BX.out 1 _ rfl
      have x2 : wr.cell? ⟨w.heap.size, 2, none⟩ = some (.int .i64 f) := cell_in BX.out 2 _ rfl
      have ql : (q : Int) < (nn : Int) := by omega
      have DL : Hid ((RD c L q).length ≤ nn + 1) := by show _ ≤ _; have := RD_len c L q; rw [← HNN.out] at this; exact this
      clear a0 a1 RW hq2 hxj
      cases hb1 : (x.toList == g.toList)
      · cases hb2 : (x.toList == n.toList)
        · have NS : Hid (¬ (sm x c.1 = true ∨ sm x c.2.1 = true)) := by show ¬ _; rw [HC.out]; unfold sm; rw [hb1, hb2]; simp
          go_upto_region 6 with fail
          go_quiet (fail)
          obtain ⟨k1, hk1⟩ : ∃ k1, k1 = nq := ⟨_, rfl⟩
          rw [← hk1]
          clear hk1
          go_upto_region 7 with fail
          cases hpb : RP c L q
          · cases hlx : Op.bytesLess n.toList x.toList
            · -- no new one yet
              have E2 : Hid (RD c L (q + 1) = RD c L q ++ [(x, j)] ∧ RP c L (q + 1) = false) := by
                have := ST.out
                rw [hpb, step_old NS.out (by rw [HC.out]; exact hlx)] at this
                injection this with h1 h2
                exact ⟨h1, h2⟩
              go_quiet (fail)
              obtain ⟨W2, hW2, OWa', BXa', BWa', HSa', e0, e1⟩ := afterQ OW.out BX.out BW.out HS1.out d0 d1 k1 nq
              rw [hW2]
              have OWa : Hid (OutR W2 (w.heap.size + 1) u5 (RD c L q)) := OWa'
              have BXa : Hid (W2.heap[w.heap.size]? = some (.cells #[.string g, .string n, .int .i64 f] 131 (0, 0))) := BXa'
              have BWa : Hid (Below w.heap.size w W2) := BWa'
              have HSa : Hid (w.heap.size + 1 ≤ W2.heap.size) := HSa'
              have y1 : W2.cell? ⟨w.heap.size, 1, none⟩ = some (.string n) := cell_in BXa' 1 _ rfl
              have y2 : W2.cell? ⟨w.heap.size, 2, none⟩ = some (.int .i64 f) := cell_in BXa' 2 _ rfl
              clear OWa' BXa' BWa' HSa' hW2 d0 d1 x0 x1 x2
              have c64 : Hid (w.heap.size + 1 ≤ (W2.alloc (.cells #[.string x, .int .i64 (j : Int)] 127)).heap.size) := by show _ ≤ _; have := HSa.out; simp; omega
              have c34 : Hid ((RD c L q).length + 1 ≤ maxLen) := by show _ ≤ _; have := DL.out; unfold maxLen; omega
              have c44 : Hid (((RD c L q).length + 1) * 24 ≤ 140737488355328) := by show _ ≤ _; have := DL.out; omega
              go_wp2_with (first | (at_builtin; refine wpList_append_lies _ rfl _ _ 94 rfl (w.heap.size + 1) 127 i0 _ 2 24 Try.underlying94 INF.out.1 INF.out.2.1 INF.out.2.2.1 INF.out.2.2.2 rfl (by decide) _ _ _ rfl (World.ownsRow.alloc OWa.out _) ⟨W2.heap.size, 0, none⟩ 1 1 [.string x, .int .i64 (j : Int)] rfl rfl (rnews _ _ rfl _ _) (rone _ _) (by decide) c34.out c44.out c64.out _ rfl ?_))
              intro g4 cap4 w4 hown hgrow hat hlt2
              have OW4 : Hid (OutR w4 (w.heap.size + 1) (.slice (some ⟨g4, 0, none⟩) ((RD c L q).length + 1) cap4) (RD c L (q + 1))) := by
                show OutR _ _ _ _
                rw [E2.out.1]
                unfold OutR
                rw [List.length_append, ← flatR_snoc]
                exact hown
              have BW4 : Hid (Below w.heap.size w w4) := (BWa.out.alloc BWa.out.size _).grown hgrow (BWa.out.alloc BWa.out.size _).size fun b hb => by have := (World.ownsRow.lt OWa.out b hb).1; omega
              have BX4 : Hid (w4.heap[w.heap.size]? = some (.cells #[.string g, .string n, .int .i64 f] 131 (0, 0))) := by
                show _ = _
                rw [hgrow.block _ (by have := c64.out; omega) (fun e => by have := (World.ownsRow.lt OWa.out _ e.symm).1; omega), Below.heap_alloc _ _ _ (by have := HSa.out; omega)]
                exact BXa.out
              have HS4 : Hid (w.heap.size + 1 ≤ w4.heap.size) := Nat.le_trans c64.out hgrow.size
              clear hown hgrow hat hlt2
              go_wp2
              go_roundw
              case rel => exact ⟨q + 1, by omega, by go_num, by rw [E2.out.2], OW4.out, BX4.out, BW4.out, HS4.out⟩
              case measure => simp [intOf]; omega
            · obtain ⟨i1, hi1⟩ := RP_false (by rw [HC.out] at hpb; exact hpb)
              have E2 : Hid (RD c L (q + 1) = RD c L q ++ [(n, i1)] ++ [(x, j)] ∧ RP c L (q + 1) = true) := by
                have := ST.out
                rw [hpb, step_new NS.out (by rw [HC.out]; exact hlx)] at this
                injection this with h1 h2
                have q1 : c.2.1 = n := by rw [HC.out]
                have q2 : c.2.2.getD 0 = i1 := by rw [HC.out, hi1]; rfl
                rw [q1, q2] at h1
                exact ⟨h1, h2⟩
              have FI : f = (i1 : Int) := by rw [HF.out, hi1]; rfl
              subst FI
              go_quiet (fail)
              obtain ⟨W2, hW2, OWa', BXa', BWa', HSa', e0, e1⟩ := afterQ OW.out BX.out BW.out HS1.out d0 d1 k1 nq
              rw [hW2]
              have OWa : Hid (OutR W2 (w.heap.size + 1) u5 (RD c L q)) := OWa'
              have BXa : Hid (W2.heap[w.heap.size]? = some (.cells #[.string g, .string n, .int .i64 (i1 : Int)] 131 (0, 0))) := BXa'
              have BWa : Hid (Below w.heap.size w W2) := BWa'
              have HSa : Hid (w.heap.size + 1 ≤ W2.heap.size) := HSa'
              have y1 : W2.cell? ⟨w.heap.size, 1, none⟩ = some (.string n) := cell_in BXa' 1 _ rfl
              have y2 : W2.cell? ⟨w.heap.size, 2, none⟩ = some (.int .i64 (i1 : Int)) := cell_in BXa' 2 _ rfl
              clear OWa' BXa' BWa' HSa' hW2 d0 d1 x0 x1 x2
              have c63 : Hid (w.heap.size + 1 ≤ (W2.alloc (.cells #[.string n, .int .i64 (i1 : Int)] 127)).heap.size) := by show _ ≤ _; have := HSa.out; simp; omega
              have c33 : Hid ((RD c L q).length + 1 ≤ maxLen) := by show _ ≤ _; have := DL.out; simp; unfold maxLen; omega
              have c43 : Hid (((RD c L q).length + 1) * 24 ≤ 140737488355328) := by show _ ≤ _; have := DL.out; simp; omega
              go_wp2_with (first | (at_builtin; refine wpList_append_lies _ rfl _ _ 94 rfl (w.heap.size + 1) 127 i0 _ 2 24 Try.underlying94 INF.out.1 INF.out.2.1 INF.out.2.2.1 INF.out.2.2.2 rfl (by decide) _ _ _ rfl (World.ownsRow.alloc OWa.out _) ⟨W2.heap.size, 0, none⟩ 1 1 [.string n, .int .i64 (i1 : Int)] rfl rfl (rnews _ _ rfl _ _) (rone _ _) (by decide) c33.out c43.out c63.out _ rfl ?_))
              intro g3 cap3 w3 hown hgrow hat hlt2
              have OW3 : Hid (OutR w3 (w.heap.size + 1) (.slice (some ⟨g3, 0, none⟩) ((RD c L q).length + 1) cap3) (RD c L q ++ [(n, i1)])) := by
                show OutR _ _ _ _
                unfold OutR
                rw [List.length_append, ← flatR_snoc]
                exact hown
              have BW3 : Hid (Below w.heap.size w w3) := (BWa.out.alloc BWa.out.size _).grown hgrow (BWa.out.alloc BWa.out.size _).size fun b hb => by have := (World.ownsRow.lt OWa.out b hb).1; omega
              have BX3 : Hid (w3.heap[w.heap.size]? = some (.cells #[.string g, .string n, .int .i64 (i1 : Int)] 131 (0, 0))) := by
                show _ = _
                rw [hgrow.block _ (by have := c63.out; omega) (fun e => by have := (World.ownsRow.lt OWa.out _ e.symm).1; omega), Below.heap_alloc _ _ _ (by have := HSa.out; omega)]
                exact BXa.out
              have HS3 : Hid (w.heap.size + 1 ≤ w3.heap.size) := Nat.le_trans c63.out hgrow.size
              clear hown hgrow hat hlt2
              have m0 : w3.cell? ⟨ga, q * 2, none⟩ = some (.string x) := (BW3.out.cell (p := ⟨ga, q * 2, none⟩) hgl).trans HE0.out
              have m1 : w3.cell? ⟨ga, q * 2 + 1, none⟩ = some (.int .i64 (j : Int)) := (BW3.out.cell (p := ⟨ga, q * 2 + 1, none⟩) hgl).trans HE1.out
              clear e0 e1 y1 y2
              have c64 : Hid (w.heap.size + 1 ≤ (w3.alloc (.cells #[.string x, .int .i64 (j : Int)] 127)).heap.size) := by show _ ≤ _; have := HS3.out; simp; omega
              have c34 : Hid ((RD c L q ++ [(n, i1)]).length + 1 ≤ maxLen) := by show _ ≤ _; have := DL.out; simp; unfold maxLen; omega
              have c44 : Hid (((RD c L q ++ [(n, i1)]).length + 1) * 24 ≤ 140737488355328) := by show _ ≤ _; have := DL.out; simp; omega
              go_wp2_with (first | (at_builtin; refine wpList_append_lies _ rfl _ _ 94 rfl (w.heap.size + 1) 127 i0 _ 2 24 Try.underlying94 INF.out.1 INF.out.2.1 INF.out.2.2.1 INF.out.2.2.2 rfl (by decide) _ _ _ rfl (World.ownsRow.alloc OW3.out _) ⟨w3.heap.size, 0, none⟩ 1 1 [.string x, .int .i64 (j : Int)] rfl rfl (rnews _ _ rfl _ _) (rone _ _) (by decide) c34.out c44.out c64.out _ rfl ?_))
              intro g4 cap4 w4 hown hgrow hat hlt2
              have OW4 : Hid (OutR w4 (w.heap.size + 1) (.slice (some ⟨g4, 0, none⟩) ((RD c L q).length + 1 + 1) cap4) (RD c L (q + 1))) := by
                show OutR _ _ _ _
                rw [E2.out.1]
                unfold OutR
                rw [List.length_append, ← flatR_snoc]
                have e9 : (RD c L q).length + 1 + 1 = (RD c L q ++ [(n, i1)]).length + 1 := by simp
                rw [e9]
                simpa using hown
              have BW4 : Hid (Below w.heap.size w w4) := (BW3.out.alloc BW3.out.size _).grown hgrow (BW3.out.alloc BW3.out.size _).size fun b hb => by have := (World.ownsRow.lt OW3.out b hb).1; omega
              have BX4 : Hid (w4.heap[w.heap.size]? = some (.cells #[.string g, .string n, .int .i64 (i1 : Int)] 131 (0, 0))) := by
                show _ = _
                rw [hgrow.block _ (by have := c64.out; omega) (fun e => by have := (World.ownsRow.lt OW3.out _ e.symm).1; omega), Below.heap_alloc _ _ _ (by have := HS3.out; omega)]
                exact BX3.out
              have HS4 : Hid (w.heap.size + 1 ≤ w4.heap.size) := Nat.le_trans c64.out hgrow.size
              clear hown hgrow hat hlt2
              go_wp2
              go_roundw
              case rel => exact ⟨q + 1, by omega, by go_num, by rw [E2.out.2], OW4.out, BX4.out, BW4.out, HS4.out⟩
              case measure => simp [intOf]; omega
          · have E2 : Hid (RD c L (q + 1) = RD c L q ++ [(x, j)] ∧ RP c L (q + 1) = true) := by
              have := ST.out
              rw [hpb, step_put NS.out] at this
              injection this with h1 h2
              exact ⟨h1, h2⟩
            go_quiet (fail)
            obtain ⟨W2, hW2, OWa', BXa', BWa', HSa', e0, e1⟩ := afterQ OW.out BX.out BW.out HS1.out d0 d1 k1 nq
            rw [hW2]
            have OWa : Hid (OutR W2 (w.heap.size + 1) u5 (RD c L q)) := OWa'
            have BXa : Hid (W2.heap[w.heap.size]? = some (.cells #[.string g, .string n, .int .i64 f] 131 (0, 0))) := BXa'
            have BWa : Hid (Below w.heap.size w W2) := BWa'
            have HSa : Hid (w.heap.size + 1 ≤ W2.heap.size) := HSa'
            have y1 : W2.cell? ⟨w.heap.size, 1, none⟩ = some (.string n) := cell_in BXa' 1 _ rfl
            have y2 : W2.cell? ⟨w.heap.size, 2, none⟩ = some (.int .i64 f) := cell_in BXa' 2 _ rfl
            clear OWa' BXa' BWa' HSa' hW2 d0 d1 x0 x1 x2
            have c64 : Hid (w.heap.size + 1 ≤ (W2.alloc (.cells #[.string x, .int .i64 (j : Int)] 127)).heap.size) := by show _ ≤ _; have := HSa.out; simp; omega
            have c34 : Hid ((RD c L q).length + 1 ≤ maxLen) := by show _ ≤ _; have := DL.out; unfold maxLen; omega
            have c44 : Hid (((RD c L q).length + 1) * 24 ≤ 140737488355328) := by show _ ≤ _; have := DL.out; omega
            go_wp2_with (first | (at_builtin; refine wpList_append_lies _ rfl _ _ 94 rfl (w.heap.size + 1) 127 i0 _ 2 24 Try.underlying94 INF.out.1 INF.out.2.1 INF.out.2.2.1 INF.out.2.2.2 rfl (by decide) _ _ _ rfl (World.ownsRow.alloc OWa.out _) ⟨W2.heap.size, 0, none⟩ 1 1 [.string x, .int .i64 (j : Int)] rfl rfl (rnews _ _ rfl _ _) (rone _ _) (by decide) c34.out c44.out c64.out _ rfl ?_))
            intro g4 cap4 w4 hown hgrow hat hlt2
            have OW4 : Hid (OutR w4 (w.heap.size + 1) (.slice (some ⟨g4, 0, none⟩) ((RD c L q).length + 1) cap4) (RD c L (q + 1))) := by
              show OutR _ _ _ _
              rw [E2.out.1]
              unfold OutR
              rw [List.length_append, ← flatR_snoc]
              exact hown
            have BW4 : Hid (Below w.heap.size w w4) := (BWa.out.alloc BWa.out.size _).grown hgrow (BWa.out.alloc BWa.out.size _).size fun b hb => by have := (World.ownsRow.lt OWa.out b hb).1; omega
            have BX4 : Hid (w4.heap[w.heap.size]? = some (.cells #[.string g, .string n, .int .i64 f] 131 (0, 0))) := by
              show _ = _
              rw [hgrow.block _ (by have := c64.out; omega) (fun e => by have := (World.ownsRow.lt OWa.out _ e.symm).1; omega), Below.heap_alloc _ _ _ (by have := HSa.out; omega)]
              exact BXa.out
            have HS4 : Hid (w.heap.size + 1 ≤ w4.heap.size) := Nat.le_trans c64.out hgrow.size
            clear hown hgrow hat hlt2
            go_wp2
            go_roundw
            case rel => exact ⟨q + 1, by omega, by go_num, by rw [E2.out.2], OW4.out, BX4.out, BW4.out, HS4.out⟩
            case measure => simp [intOf]; omega
        · have E2 : Hid (RD c L (q + 1) = RD c L q ∧ RP c L (q + 1) = RP c L q) := by
            have := ST.out
            rw [step_skip (Or.inr (by rw [HC.out]; exact hb2))] at this
            injection this with h1 h2
            exact ⟨h1, h2⟩
          go_upto_region 6 with fail
          go_quiet (fail)
          go_wp2
          go_roundw
          case rel => exact ⟨q + 1, by omega, by go_num, by rw [E2.out.2], by rw [E2.out.1]; exact owns_same OW.out fun _ _ => rfl, BX.out, BW.out.trans (Go.Joins.below_draws _ _ _), HS1.out⟩
          case measure => simp [intOf]; omega
      · have E2 : Hid (RD c L (q + 1) = RD c L q ∧ RP c L (q + 1) = RP c L q) := by
          have := ST.out
          rw [step_skip (Or.inl (by rw [HC.out]; exact hb1))] at this
          injection this with h1 h2
          exact ⟨h1, h2⟩
        go_upto_region 6 with fail
        go_quiet (fail)
        go_wp2
        go_roundw
        case rel => exact ⟨q + 1, by omega, by go_num, by rw [E2.out.2], by rw [E2.out.1]; exact owns_same OW.out fun _ _ => rfl, BX.out, BW.out.trans (Go.Joins.below_draws _ _ _), HS1.out⟩
        case measure => simp [intOf]; omega
    · have RE := R_end c L q (by rw [← HNN.out]; omega)
      have DL : Hid ((RD c L q).length ≤ nn + 1) := by show _ ≤ _; have := RD_len c L q; rw [← HNN.out] at this; exact this
      have HRE : Hid _ := RE
      clear RE
      cases hpb : RP c L q
      · obtain ⟨i1, hi1⟩ := RP_false (by rw [HC.out] at hpb; exact hpb)
        have TE : Hid (RD c L q ++ [(n, i1)] = turnN L c) := by
          have := HRE.out.2 hpb i1 (by rw [HC.out]; exact hi1)
          have q1 : c.2.1 = n := by rw [HC.out]
          rw [q1] at this
          exact this
        have FI : f = (i1 : Int) := by rw [HF.out, hi1]; rfl
        subst FI
        have x1 : wr.cell? ⟨w.heap.size, 1, none⟩ = some (.string n) := cell_in BX.out 1 _ rfl
        have x2 : wr.cell? ⟨w.heap.size, 2, none⟩ = some (.int .i64 (i1 : Int)) := cell_in BX.out 2 _ rfl
        have c6 : Hid (w.heap.size + 1 ≤ (wr.alloc (.cells #[.string n, .int .i64 (i1 : Int)] 127)).heap.size) := by show _ ≤ _; have := HS1.out; simp; omega
        have c3 : Hid ((RD c L q).length + 1 ≤ maxLen) := by show _ ≤ _; have := DL.out; unfold maxLen; omega
        have c4 : Hid (((RD c L q).length + 1) * 24 ≤ 140737488355328) := by show _ ≤ _; have := DL.out; omega
        go_wp2_with (first | (at_builtin; refine wpList_append_lies _ rfl _ _ 94 rfl (w.heap.size + 1) 127 i0 _ 2 24 Try.underlying94 INF.out.1 INF.out.2.1 INF.out.2.2.1 INF.out.2.2.2 rfl (by decide) _ _ _ rfl (World.ownsRow.alloc OW.out _) ⟨wr.heap.size, 0, none⟩ 1 1 [.string n, .int .i64 (i1 : Int)] rfl rfl (rnews _ _ rfl _ _) (rone _ _) (by decide) c3.out c4.out c6.out _ rfl ?_))
        intro g4 cap4 w4 hown hgrow hat hlt2
        have OW4 : Hid (OutR w4 (w.heap.size + 1) (.slice (some ⟨g4, 0, none⟩) ((RD c L q).length + 1) cap4) (turnN L c)) := by
          show OutR _ _ _ _
          rw [← TE.out]
          unfold OutR
          rw [List.length_append, ← flatR_snoc]
          exact hown
        have BW4 : Hid (Below w.heap.size w w4) := (BW.out.alloc BW.out.size _).grown hgrow (BW.out.alloc BW.out.size _).size fun b hb => by have := (World.ownsRow.lt OW.out b hb).1; omega
        clear hown hgrow hat hlt2
        go_wp2
        go_ret
        exact ⟨_, rfl, OW4.out, BW4.out⟩
      · have TE : Hid (RD c L q = turnN L c) := by
          exact HRE.out.1 hpb
        go_wp2
        go_ret
        exact ⟨_, rfl, by have := OW.out; rw [TE.out] at this; exact this, BW.out⟩
end Go.Proofs.Ytnkgfoabadjboaa
