/-
  Crash, by the document. Conditions: the disk stands for a plain state; fewer than 2^41 entries.
-/
import Derived.Test.YtnkgfoabadjboaaDk30
namespace Go.Proofs.Ytnkgfoabadjboaa
open Go.RowKit
set_option linter.unusedVariables false
set_option linter.unusedSimpArgs false
theorem cN_stop (S : St) (keep : Int) (q r : Nat) (hq : q ≤ r) (h : ¬ (q : Int) < keep) : cN S keep r = cN S keep q := by
  induction r with
  | zero => rw [show q = 0 by omega]
  | succ r ih =>
    by_cases e : q = r + 1
    · rw [e]
    · rw [cN_out S keep r (by omega)]; exact ih (by omega)
theorem RRep.more {w : World} {O : Nat → Prop} {D : Nat} {vN vK vn vs vc : Value} {S : St} (h : RRep w O D vN vK vn vs vc S) (P : Nat → Prop) (hP : ∀ b, P b → b < w.heap.size) : RRep w (fun q => O q ∨ P q) D vN vK vn vs vc S where
  blk := h.blk
  now := h.now
  kept := h.kept
  names := h.names
  safe := h.safe
  chg := h.chg
  nk := h.nk
  oD := Or.inl h.oD
  oN b hb := Or.inl (h.oN b hb)
  oK b hb := Or.inl (h.oK b hb)
  on b hb := Or.inl (h.on b hb)
  os b hb := Or.inl (h.os b hb)
  oc b hb := Or.inl (h.oc b hb)
  lt q hq := by rcases hq with hq | hq; exact h.lt q hq; exact hP q hq
set_option maxHeartbeats 8000000 in
set_option maxRecDepth 100000 in
theorem rcrash_any (O : Nat → Prop) (D : Nat) (vN vK vn vs vc : Value) (S : St) (m : Nat) (keep n : Int) (w : World) (h : RRep w O D vN vK vn vs vc S) (k : S.Ok m) (hm : m < 2199023255552) :
    Calls Try.prog 103 #[.pointer (some ⟨D, 0, none⟩), .int .i64 keep, .int .i64 n] w fun e w' => ∃ O' vn' vs' vc', e = .returned (.tuple #[]) ∧ RRep w' O' D vN vK vn' vs' vc' (crashS S keep n) ∧ Fr O O' w w' := by
  have HH : Hid (RRep w O D vN vK vn vs vc S) := h
  have HK : Hid (S.Ok m) := k
  obtain ⟨ca, cc, rfl, hca⟩ := slice_len h.chg
  obtain ⟨ka, kc, rfl, hka⟩ := slice_len h.safe
  obtain ⟨c, hc⟩ : ∃ c, c = S.chg.length := ⟨_, rfl⟩
  have HC : Hid _ := hc
  have HCA : Hid (0 < S.chg.length → ∃ g, ca = some ⟨g, 0, none⟩) := hca
  have c1 : w.cell? ⟨D, 3, none⟩ = some (.slice ka S.safe.length kc) := cell_in h.blk 3 _ rfl
  have cb : c < 2199023255552 := by have := k.ls; omega
  have BD : Hid (D < w.heap.size) := h.lt D h.oD
  clear h k hca hka hc
  go_enter Try.func103, Try.ntmps103
  go_wp2
  go_loopw [6, 7] (fun ov iv wr => ∃ (q : Nat) (sa : Option Addr) (sc : Nat), q ≤ c ∧ iv = .int .i64 q ∧ ov = .slice sa (cN S keep q).length sc ∧ Hid (OutR wr 0 (.slice sa (cN S keep q).length sc) (cN S keep q)) ∧ Hid (Ours O w.heap.size (.slice sa (cN S keep q).length sc)) ∧ Hid (Below w.heap.size w wr)) (fun _ iv _ => c - (intOf iv).toNat)
  case atStart => exact ⟨0, ka, kc, by omega, rfl, rfl, HH.out.safe, fun b hb => Or.inl (HH.out.os b hb), Below.refl _ _⟩
  case round =>
    obtain ⟨q, sa, sc, hq, rfl, rfl, OW, OU, BW⟩ := hrel
    clear c1
    have NL : Hid ((cN S keep q).length ≤ m) := by show _ ≤ _; have h1 := cN_len S keep q; have h2 := HK.out.ls; have h3 := HC.out; omega
    have XR1 := HH.out.below BW.out
    have c2 : wr.cell? ⟨D, 4, none⟩ = some (.slice ca c cc) := by rw [HC.out]; exact cell_in XR1.blk 4 _ rfl
    by_cases hlt : q < c ∧ (q : Int) < keep
    · obtain ⟨hlt, hkq⟩ := hlt
      have hq2 : q < S.chg.length := by rw [← HC.out]; exact hlt
      obtain ⟨g, rfl⟩ := HCA.out (by omega)
      obtain ⟨a0, a1, a2⟩ := flatD_at S.chg q hq2
      have RW : wr.ownsRow 0 131 3 (.slice (some ⟨g, 0, none⟩) S.chg.length cc) S.chg.length (flatD S.chg) := XR1.chg
      have d0 := (RW.cellAt (q * 3) (by omega)).trans a0
      have d1 := (RW.cellAt (q * 3 + 1) (by omega)).trans a1
      have d2 := (RW.cellAt (q * 3 + 2) (by omega)).trans a2
      obtain ⟨gn, nm, o, hg⟩ : ∃ gn nm o, S.chg.getD q dC = (gn, nm, o) := ⟨_, _, _, rfl⟩
      rw [hg] at d0 d1 d2
      simp only at d0 d1 d2
      obtain ⟨p, hp⟩ : ∃ p, p = fileI o := ⟨_, rfl⟩
      rw [← hp] at d2
      have HP : Hid _ := hp
      have ql : (q : Int) < (c : Int) := by omega
      have CE : Hid (cN S keep (q + 1) = turnN (cN S keep q) (gn, nm, o)) := by show _ = _; rw [cN_in S keep q hkq, hg]
      have TU : Hid (Calls Try.prog 133 #[.slice sa (cN S keep q).length sc, .agg #[.string gn, .string nm, .int .i64 p]] wr fun e w' => ∃ v', e = .returned v' ∧ OutR w' (wr.heap.size + 1) v' (turnN (cN S keep q) (gn, nm, o)) ∧ Below wr.heap.size wr w') := by rw [hp]; exact turned_any2 _ (cN S keep q) gn nm o wr OW.out (by have := NL.out; omega)
      clear RW XR1 a0 a1 a2 hp hg hq2
      go_wp2_with (first
        | (go_at_call 133; refine Calls.mono TU.out ?_; rintro e w1 ⟨v', rfl, ho, hb⟩
           rw [← CE.out] at ho
           have ho2 := Go.Joins.ownsRow_le ho (Nat.zero_le _)
           obtain ⟨sa2, sc2, rfl, hsa2⟩ := slice_len ho2
           have HO : Hid (OutR w1 0 (.slice sa2 (cN S keep (q + 1)).length sc2) (cN S keep (q + 1))) := ho2
           have HU : Hid (Ours O w.heap.size (.slice sa2 (cN S keep (q + 1)).length sc2)) := fun b hbb => by
             have h1 := (World.ownsRow.lt ho b hbb).1
             have h2 := BW.out.size
             right
             omega
           have HB1 : Hid (Below w.heap.size w w1) := BW.out.trans (hb.mono BW.out.size)
           clear ho ho2 hb hsa2))
      go_roundw
      case rel => exact ⟨q + 1, sa2, sc2, by omega, by go_num, rfl, HO.out, HU.out, HB1.out⟩
      case measure => simp [intOf]; omega
    · have hst : cN S keep S.chg.length = cN S keep q := by
        by_cases h1 : q < c
        · exact cN_stop S keep q _ (by rw [← HC.out]; exact hq) (fun h2 => hlt ⟨h1, h2⟩)
        · rw [show q = S.chg.length by rw [← HC.out]; omega]
      obtain ⟨N, hN⟩ : ∃ N, N = cN S keep S.chg.length := ⟨_, rfl⟩
      have CR : Hid (crashS S keep n = ⟨(tears n S N N.length).now, (tears n S N N.length).kept, N, N, [], -1, -1⟩) := by show _ = _; unfold crashS; rw [hN]
      have NN : Hid (∀ e ∈ N, e.2 < S.now.length) := by rw [hN]; exact cN_nums HK.out keep _ (Nat.le_refl _)
      rw [← hst, ← hN] at OW OU NL ⊢
      have hkey : ¬ q < c ∨ (q < c ∧ ¬ (q : Int) < keep) := by
        by_cases h1 : q < c
        · exact Or.inr ⟨h1, fun h2 => hlt ⟨h1, h2⟩⟩
        · exact Or.inl h1
      clear hN hst HCA XR1 hlt
      obtain ⟨nn, hnn⟩ : ∃ nn, nn = N.length := ⟨_, rfl⟩
      have HNN : Hid _ := hnn
      have OW0 : Hid (wr.ownsRow 0 127 2 (.slice sa N.length sc) N.length (flatR N)) := OW.out
      have SAF : Hid (0 < N.length → ∃ g, sa = some ⟨g, 0, none⟩) := by
        show _ → _
        intro h0
        obtain ⟨a, cq, e, hh⟩ := slice_len OW0.out
        injection e with e1 _ _
        rw [e1]
        exact hh h0
      have nb : nn < 2199023255552 := by rw [hnn]; have := NL.out; omega
      rw [← hnn] at OW0 OU ⊢
      have XR0 : Hid (RRep wr O D vN vK vn (.slice ka S.safe.length kc) (.slice ca S.chg.length cc) S) := HH.out.below BW.out
      have FW0 : Hid (Fr O O w wr) := Fr.below BW.out
      clear hnn OW
      rcases hkey with hk1 | ⟨hk1, hk2⟩
      all_goals
        go_wp2
        go_loopw [8] (fun iv wz => ∃ q : Nat, q ≤ nn ∧ iv = .int .i64 q ∧ Hid (RRep wz O D vN vK vn (.slice ka S.safe.length kc) (.slice ca S.chg.length cc) (tears n S N q)) ∧ Hid (wz.ownsRow 0 127 2 (.slice sa nn sc) nn (flatR N)) ∧ Hid (Fr O O w wz)) (fun iv _ => nn - (intOf iv).toNat)
        case atStart => exact ⟨0, by omega, rfl, XR0.out, OW0.out, FW0.out⟩
      all_goals
        clear BW OW0 XR0 FW0 c2
        obtain ⟨q, hq, rfl, XW, OW, FW⟩ := hrel
        by_cases hlt : q < nn
        · have hq2 : q < N.length := by rw [← HNN.out]; exact hlt
          obtain ⟨gl, rfl⟩ := SAF.out (by omega)
          have eN : N.getD q dN = N[q] := by rw [List.getD_eq_getElem?_getD, List.getElem?_eq_getElem hq2]; rfl
          obtain ⟨i, hi⟩ : ∃ i, i = N[q].2 := ⟨_, rfl⟩
          have hil : i < S.now.length := by rw [hi]; exact NN.out _ (List.getElem_mem hq2)
          obtain ⟨T, hT⟩ : ∃ T, T = tears n S N q := ⟨_, rfl⟩
          have TL : i < T.now.length := by rw [hT, (tears_now n S N q).1]; exact hil
          have TK : T.Ok m := by rw [hT]; exact tears_ok HK.out n N NN.out q (by omega)
          have TLk : i < T.kept.length := by rw [TK.len]; exact TL
          have TS : Hid (tears n S N (q + 1) = tear n T i) := by show _ = _; rw [tears_succ, eN, ← hi, ← hT]
          rw [← hT] at XW
          have e4 : wr.cell? ⟨gl, q * 2 + 1, none⟩ = some (.int .i64 (i : Int)) := (OW.out.cellAt (q * 2 + 1) (by omega)).trans (by rw [hi, ← eN]; exact (flatR_at N q hq2).2)
          obtain ⟨g, Nc, rfl, -, -⟩ := outS_slot XW.out.now TL
          obtain ⟨gk, Kc, rfl, -, -⟩ := outS_slot XW.out.kept TLk
          obtain ⟨L, hL⟩ : ∃ L, L = T.now.length := ⟨_, rfl⟩
          have hLk : T.kept.length = L := by rw [TK.len, hL]
          rw [← hL, hLk] at XW
          obtain ⟨q0, q1, q2, q3⟩ := XW.out.slots TL TLk
          obtain ⟨x, hx⟩ : ∃ x, x = nowOf T i := ⟨_, rfl⟩
          obtain ⟨y, hy⟩ : ∃ y, y = keptOf T i := ⟨_, rfl⟩
          rw [← hx] at q1
          rw [← hy] at q2
          obtain ⟨y0, y1⟩ := q0
          obtain ⟨y2, u2⟩ := q1
          have y3 := q2
          have u3 := q3
          have xs : x.size < 4611686018427387904 := by rw [hx]; exact now_lt TK TL
          have ys : y.size < 4611686018427387904 := by rw [hy]; exact kept_lt TK TL
          have TE : Hid (tears n S N (q + 1) = { T with now := T.now.set i (tearT n x y), kept := T.kept.set i (tearT n x y) }) := by show _ = _; rw [TS.out, hx, hy]; rfl
          have XSAME : Hid (T.now.set i x = T.now) := by show _ = _; rw [hx]; exact set_same T.now i TL
          have lD : Hid (D < wr.heap.size) := XW.out.lt D XW.out.oD
          have lg : Hid (g < wr.heap.size) := XW.out.lt g (XW.out.oN g rfl)
          have lgk : Hid (gk < wr.heap.size) := XW.out.lt gk (XW.out.oK gk rfl)
          have nDg : Hid (D ≠ g) := fun e => row_ne XW.out.blk XW.out.now (by decide) g rfl e
          have ngk : Hid (gk ≠ g) := fun e => XW.out.nk g rfl (by rw [← e]; rfl)
          have ql : (q : Int) < (nn : Int) := by omega
          have il : (i : Int) < (L : Int) := by rw [hL]; omega
          have i0 : (0 : Int) ≤ (i : Int) := by omega
          have lb : L < 2199023255552 := by rw [hL]; have := TK.lf; omega
          have HGL : Hid (∀ z, O z → z ≠ gl → True) := fun _ _ _ => trivial
          have GLT : Hid (gl < wr.heap.size ∧ gl ≠ g ∧ gl ≠ gk) := ⟨(OW.out.lt gl rfl).2, fun e => rows_ne OW.out XW.out.now (by decide) gl g rfl rfl e, fun e => rows_ne OW.out XW.out.kept (by decide) gl gk rfl rfl e⟩
          have HLL : Hid (L = T.now.length ∧ T.kept.length = L) := ⟨hL, hLk⟩
          have TLH : Hid (i < T.now.length ∧ i < T.kept.length) := ⟨TL, TLk⟩
          clear q2 q3 eN hi hil hT hq2 TL TLk TK TS hL hLk hx hy
          go_upto_region 9 with fail
          clear e4
          go_quiet (fail)
          cases hxy : (x.toList == y.toList)
          · have TT : Hid (tearT n x y = tornB x y n) := by show _ = _; unfold tearT sm; rw [hxy]; rfl
            obtain ⟨t, ht⟩ : ∃ t, t = tornB x y n := ⟨_, rfl⟩
            have TO : Hid (∀ W : World, Calls Try.prog 134 #[.string x, .string y, .int .i64 n] W fun e w' => e = .returned (.string t) ∧ Below W.heap.size W w') := fun W => by rw [ht]; exact (tornText_any x y n W xs ys).mono fun e w' q => ⟨q.1, by rw [q.2]; exact Below.refl _ _⟩
            rw [← ht] at TT
            clear ht
            go_wp2_with fail
            refine wp_region_held_drew (S := fun w' => w'.cell? ⟨D, 0, none⟩ = some (.slice (some ⟨g, 0, none⟩) L Nc) ∧ w'.cell? ⟨D, 1, none⟩ = some (.slice (some ⟨gk, 0, none⟩) L Kc) ∧ w'.cell? ⟨gk, i, none⟩ = some (.string y)) (by kernel_rfl) ⟨y0, y1, y3⟩ (fun hS => ?_)
            refine wpAnyH_take (i := 0) (oi := { dst := some 63, op := Go.Op.move (Go.Operand.tmp 0), type := 41, pos := "disk.go:223", after := #[], guard := none }) (v := ?_) rfl (by kernel_rfl) (by kernel_rfl) (by kernel_rfl) (fun _ _ _ h => h) (Or.inl ⟨by kernel_rfl, ?_⟩) hS ?_
            rotate_left
            · intro w hSw
              try dsimp only at hSw
              go_simp
              try with_reducible rfl
            try simp only [Act.put, List.setIfInBounds_toArray, List.set_cons_zero, List.set_cons_succ]
            refine wpAnyH_take (i := 1) (oi := { dst := some 64, op := Go.Op.nilCheck (Go.Operand.tmp 63), type := 0, pos := "disk.go:223", after := #[{ on := 0, ground := Go.Ground.data }], guard := none }) (v := ?_) rfl (by kernel_rfl) (by kernel_rfl) (by kernel_rfl) (fun _ _ _ h => h) (Or.inl ⟨by kernel_rfl, ?_⟩) hS ?_
            rotate_left
            · intro w hSw
              try dsimp only at hSw
              go_simp
              try with_reducible rfl
            try simp only [Act.put, List.setIfInBounds_toArray, List.set_cons_zero, List.set_cons_succ]
            refine wpAnyH_take (i := 2) (oi := { dst := some 65, op := Go.Op.fieldAddr 97 (Go.Operand.tmp 64) 0, type := 0, pos := "disk.go:223", after := #[{ on := 1, ground := Go.Ground.data }], guard := none }) (v := ?_) rfl (by kernel_rfl) (by kernel_rfl) (by kernel_rfl) (fun _ _ _ h => h) (Or.inl ⟨by kernel_rfl, ?_⟩) hS ?_
            rotate_left
            · intro w hSw
              try dsimp only at hSw
              go_simp
              try with_reducible rfl
            try simp only [Act.put, List.setIfInBounds_toArray, List.set_cons_zero, List.set_cons_succ]
            refine wpAnyH_take (i := 3) (oi := { dst := some 66, op := Go.Op.load 93 (Go.Operand.tmp 65), type := 93, pos := "disk.go:223", after := #[{ on := 2, ground := Go.Ground.data }], guard := none }) (v := ?_) rfl (by kernel_rfl) (by kernel_rfl) (by kernel_rfl) (fun _ _ _ h => h) (Or.inl ⟨by kernel_rfl, ?_⟩) hS ?_
            rotate_left
            · intro w hSw
              try dsimp only at hSw
              go_simp
              try with_reducible rfl
            try simp only [Act.put, List.setIfInBounds_toArray, List.set_cons_zero, List.set_cons_succ]
            refine wpAnyH_take (i := 4) (oi := { dst := some 67, op := Go.Op.move (Go.Operand.tmp 9), type := 3, pos := "disk.go:223", after := #[], guard := none }) (v := ?_) rfl (by kernel_rfl) (by kernel_rfl) (by kernel_rfl) (fun _ _ _ h => h) (Or.inl ⟨by kernel_rfl, ?_⟩) hS ?_
            rotate_left
            · intro w hSw
              try dsimp only at hSw
              go_simp
              try with_reducible rfl
            try simp only [Act.put, List.setIfInBounds_toArray, List.set_cons_zero, List.set_cons_succ]
            refine wpAnyH_take (i := 5) (oi := { dst := some 68, op := Go.Op.move (Go.Operand.tmp 0), type := 41, pos := "disk.go:223", after := #[], guard := none }) (v := ?_) rfl (by kernel_rfl) (by kernel_rfl) (by kernel_rfl) (fun _ _ _ h => h) (Or.inl ⟨by kernel_rfl, ?_⟩) hS ?_
            rotate_left
            · intro w hSw
              try dsimp only at hSw
              go_simp
              try with_reducible rfl
            try simp only [Act.put, List.setIfInBounds_toArray, List.set_cons_zero, List.set_cons_succ]
            refine wpAnyH_take (i := 6) (oi := { dst := some 69, op := Go.Op.nilCheck (Go.Operand.tmp 68), type := 0, pos := "disk.go:223", after := #[{ on := 5, ground := Go.Ground.data }], guard := none }) (v := ?_) rfl (by kernel_rfl) (by kernel_rfl) (by kernel_rfl) (fun _ _ _ h => h) (Or.inl ⟨by kernel_rfl, ?_⟩) hS ?_
            rotate_left
            · intro w hSw
              try dsimp only at hSw
              go_simp
              try with_reducible rfl
            try simp only [Act.put, List.setIfInBounds_toArray, List.set_cons_zero, List.set_cons_succ]
            refine wpAnyH_take (i := 7) (oi := { dst := some 70, op := Go.Op.fieldAddr 97 (Go.Operand.tmp 69) 0, type := 0, pos := "disk.go:223", after := #[{ on := 6, ground := Go.Ground.data }], guard := none }) (v := ?_) rfl (by kernel_rfl) (by kernel_rfl) (by kernel_rfl) (fun _ _ _ h => h) (Or.inl ⟨by kernel_rfl, ?_⟩) hS ?_
            rotate_left
            · intro w hSw
              try dsimp only at hSw
              go_simp
              try with_reducible rfl
            try simp only [Act.put, List.setIfInBounds_toArray, List.set_cons_zero, List.set_cons_succ]
            refine wpAnyH_take (i := 8) (oi := { dst := some 71, op := Go.Op.load 93 (Go.Operand.tmp 70), type := 93, pos := "disk.go:223", after := #[{ on := 7, ground := Go.Ground.data }], guard := none }) (v := ?_) rfl (by kernel_rfl) (by kernel_rfl) (by kernel_rfl) (fun _ _ _ h => h) (Or.inl ⟨by kernel_rfl, ?_⟩) hS ?_
            rotate_left
            · intro w hSw
              try dsimp only at hSw
              go_simp
              try with_reducible rfl
            try simp only [Act.put, List.setIfInBounds_toArray, List.set_cons_zero, List.set_cons_succ]
            refine wpAnyH_take (i := 9) (oi := { dst := some 72, op := Go.Op.move (Go.Operand.tmp 9), type := 3, pos := "disk.go:223", after := #[], guard := none }) (v := ?_) rfl (by kernel_rfl) (by kernel_rfl) (by kernel_rfl) (fun _ _ _ h => h) (Or.inl ⟨by kernel_rfl, ?_⟩) hS ?_
            rotate_left
            · intro w hSw
              try dsimp only at hSw
              go_simp
              try with_reducible rfl
            try simp only [Act.put, List.setIfInBounds_toArray, List.set_cons_zero, List.set_cons_succ]
            refine wpAnyH_take (i := 10) (oi := { dst := some 73, op := Go.Op.indexAddr 93 (Go.Operand.tmp 71) (Go.Operand.tmp 72), type := 0, pos := "disk.go:223", after := #[{ on := 8, ground := Go.Ground.data }, { on := 9, ground := Go.Ground.data }], guard := none }) (v := ?_) rfl (by kernel_rfl) (by kernel_rfl) (by kernel_rfl) (fun _ _ _ h => h) (Or.inl ⟨by kernel_rfl, ?_⟩) hS ?_
            rotate_left
            · intro w hSw
              try dsimp only at hSw
              go_simp
              try with_reducible rfl
            try simp only [Act.put, List.setIfInBounds_toArray, List.set_cons_zero, List.set_cons_succ]
            refine wpAnyH_take (i := 12) (oi := { dst := some 75, op := Go.Op.move (Go.Operand.tmp 0), type := 41, pos := "disk.go:223", after := #[], guard := none }) (v := ?_) rfl (by kernel_rfl) (by kernel_rfl) (by kernel_rfl) (fun _ _ _ h => h) (Or.inl ⟨by kernel_rfl, ?_⟩) hS ?_
            rotate_left
            · intro w hSw
              try dsimp only at hSw
              go_simp
              try with_reducible rfl
            try simp only [Act.put, List.setIfInBounds_toArray, List.set_cons_zero, List.set_cons_succ]
            refine wpAnyH_take (i := 13) (oi := { dst := some 76, op := Go.Op.nilCheck (Go.Operand.tmp 75), type := 0, pos := "disk.go:223", after := #[{ on := 12, ground := Go.Ground.data }], guard := none }) (v := ?_) rfl (by kernel_rfl) (by kernel_rfl) (by kernel_rfl) (fun _ _ _ h => h) (Or.inl ⟨by kernel_rfl, ?_⟩) hS ?_
            rotate_left
            · intro w hSw
              try dsimp only at hSw
              go_simp
              try with_reducible rfl
            try simp only [Act.put, List.setIfInBounds_toArray, List.set_cons_zero, List.set_cons_succ]
            refine wpAnyH_take (i := 14) (oi := { dst := some 77, op := Go.Op.fieldAddr 97 (Go.Operand.tmp 76) 1, type := 0, pos := "disk.go:223", after := #[{ on := 13, ground := Go.Ground.data }], guard := none }) (v := ?_) rfl (by kernel_rfl) (by kernel_rfl) (by kernel_rfl) (fun _ _ _ h => h) (Or.inl ⟨by kernel_rfl, ?_⟩) hS ?_
            rotate_left
            · intro w hSw
              try dsimp only at hSw
              go_simp
              try with_reducible rfl
            try simp only [Act.put, List.setIfInBounds_toArray, List.set_cons_zero, List.set_cons_succ]
            refine wpAnyH_take (i := 15) (oi := { dst := some 78, op := Go.Op.load 93 (Go.Operand.tmp 77), type := 93, pos := "disk.go:223", after := #[{ on := 14, ground := Go.Ground.data }], guard := none }) (v := ?_) rfl (by kernel_rfl) (by kernel_rfl) (by kernel_rfl) (fun _ _ _ h => h) (Or.inl ⟨by kernel_rfl, ?_⟩) hS ?_
            rotate_left
            · intro w hSw
              try dsimp only at hSw
              go_simp
              try with_reducible rfl
            try simp only [Act.put, List.setIfInBounds_toArray, List.set_cons_zero, List.set_cons_succ]
            refine wpAnyH_take (i := 16) (oi := { dst := some 79, op := Go.Op.move (Go.Operand.tmp 9), type := 3, pos := "disk.go:223", after := #[], guard := none }) (v := ?_) rfl (by kernel_rfl) (by kernel_rfl) (by kernel_rfl) (fun _ _ _ h => h) (Or.inl ⟨by kernel_rfl, ?_⟩) hS ?_
            rotate_left
            · intro w hSw
              try dsimp only at hSw
              go_simp
              try with_reducible rfl
            try simp only [Act.put, List.setIfInBounds_toArray, List.set_cons_zero, List.set_cons_succ]
            refine wpAnyH_take (i := 17) (oi := { dst := some 80, op := Go.Op.indexAddr 93 (Go.Operand.tmp 78) (Go.Operand.tmp 79), type := 0, pos := "disk.go:223", after := #[{ on := 15, ground := Go.Ground.data }, { on := 16, ground := Go.Ground.data }], guard := none }) (v := ?_) rfl (by kernel_rfl) (by kernel_rfl) (by kernel_rfl) (fun _ _ _ h => h) (Or.inl ⟨by kernel_rfl, ?_⟩) hS ?_
            rotate_left
            · intro w hSw
              try dsimp only at hSw
              go_simp
              try with_reducible rfl
            try simp only [Act.put, List.setIfInBounds_toArray, List.set_cons_zero, List.set_cons_succ]
            refine wpAnyH_take (i := 18) (oi := { dst := some 81, op := Go.Op.load 9 (Go.Operand.tmp 80), type := 9, pos := "disk.go:223", after := #[{ on := 17, ground := Go.Ground.data }], guard := none }) (v := ?_) rfl (by kernel_rfl) (by kernel_rfl) (by kernel_rfl) (fun _ _ _ h => h) (Or.inl ⟨by kernel_rfl, ?_⟩) hS ?_
            rotate_left
            · intro w hSw
              try dsimp only at hSw
              go_simp
              try with_reducible rfl
            try simp only [Act.put, List.setIfInBounds_toArray, List.set_cons_zero, List.set_cons_succ]
            refine wpAnyH_take (i := 19) (oi := { dst := some 82, op := Go.Op.move (Go.Operand.tmp 2), type := 3, pos := "disk.go:223", after := #[], guard := none }) (v := ?_) rfl (by kernel_rfl) (by kernel_rfl) (by kernel_rfl) (fun _ _ _ h => h) (Or.inl ⟨by kernel_rfl, ?_⟩) hS ?_
            rotate_left
            · intro w hSw
              try dsimp only at hSw
              go_simp
              try with_reducible rfl
            try simp only [Act.put, List.setIfInBounds_toArray, List.set_cons_zero, List.set_cons_succ]
            refine wpAnyH_ready (rs := [11]) (by kernel_rfl) (by simp) ?_
            refine AllReadyH.cons (o := { dst := some 74, op := Go.Op.load 9 (Go.Operand.tmp 73), type := 9, pos := "disk.go:223", after := #[{ on := 10, ground := Go.Ground.data }], guard := none }) rfl (fun K hK => ?_) AllReadyH.nil
            go_simp
            refine hK.out _ _ hS (fun hS => ?_)
            try simp only [Act.put, List.setIfInBounds_toArray, List.set_cons_zero, List.set_cons_succ]
            clear hK K
            refine wpAnyH_ready (rs := [20]) (by kernel_rfl) (by simp) ?_
            refine AllReadyH.cons (o := { dst := some 83, op := Go.Op.call { callee := Go.Callee.value (Go.Operand.func 134), args := #[Go.Operand.tmp 74, Go.Operand.tmp 81, Go.Operand.tmp 82], argTypes := #[9, 9, 3] }, type := 9, pos := "disk.go:223", after := #[{ on := 11, ground := Go.Ground.data }, { on := 18, ground := Go.Ground.data }, { on := 19, ground := Go.Ground.data }], guard := none }) rfl (fun K hK => ?_) AllReadyH.nil
            go_simp
            refine (TO.out _).mono ?_
            rintro e w5 ⟨rfl, hb⟩
            have hS5 : w5.cell? ⟨D, 0, none⟩ = some (.slice (some ⟨g, 0, none⟩) L Nc) ∧ w5.cell? ⟨D, 1, none⟩ = some (.slice (some ⟨gk, 0, none⟩) L Kc) ∧ w5.cell? ⟨gk, i, none⟩ = some (.string y) := ⟨(hb.cell (p := ⟨D, 0, none⟩) lD.out).trans y0, (hb.cell (p := ⟨D, 1, none⟩) lD.out).trans y1, (hb.cell (p := ⟨gk, i, none⟩) lgk.out).trans y3⟩
            have b0 : w5.cell? ⟨g, i, none⟩ = some (.string x) := (hb.cell (p := ⟨g, i, none⟩) lg.out).trans y2
            have b1 : w5.frozen? ⟨g, i, none⟩ = false := (hb.frozen (p := ⟨g, i, none⟩) lg.out).trans u2
            have HB5 : Hid (Below wr.heap.size wr w5) := (below_drewN (Below.refl _ _) _).trans hb
            clear hb y0 y1 y2 y3 u2 u3
            go_wp2_with fail
            refine hK.out _ _ hS5 (fun hS => ?_)
            try simp only [Act.put, List.setIfInBounds_toArray, List.set_cons_zero, List.set_cons_succ]
            clear hK K
            refine wpAnyH_take (i := 21) (oi := { dst := some 84, op := Go.Op.indexAddr 93 (Go.Operand.tmp 66) (Go.Operand.tmp 67), type := 0, pos := "disk.go:223", after := #[{ on := 3, ground := Go.Ground.data }, { on := 4, ground := Go.Ground.data }, { on := 0, ground := Go.Ground.phase }, { on := 1, ground := Go.Ground.phase }, { on := 2, ground := Go.Ground.phase }, { on := 3, ground := Go.Ground.phase }, { on := 4, ground := Go.Ground.phase }, { on := 5, ground := Go.Ground.phase }, { on := 6, ground := Go.Ground.phase }, { on := 7, ground := Go.Ground.phase }, { on := 8, ground := Go.Ground.phase }, { on := 9, ground := Go.Ground.phase }, { on := 10, ground := Go.Ground.phase }, { on := 11, ground := Go.Ground.phase }, { on := 12, ground := Go.Ground.phase }, { on := 13, ground := Go.Ground.phase }, { on := 14, ground := Go.Ground.phase }, { on := 15, ground := Go.Ground.phase }, { on := 16, ground := Go.Ground.phase }, { on := 17, ground := Go.Ground.phase }, { on := 18, ground := Go.Ground.phase }, { on := 19, ground := Go.Ground.phase }, { on := 20, ground := Go.Ground.phase }], guard := none }) (v := ?_) rfl (by kernel_rfl) (by kernel_rfl) (by kernel_rfl) (fun _ _ _ h => h) (Or.inl ⟨by kernel_rfl, ?_⟩) hS ?_
            rotate_left
            · intro w hSw
              try dsimp only at hSw
              go_simp
              try with_reducible rfl
            try simp only [Act.put, List.setIfInBounds_toArray, List.set_cons_zero, List.set_cons_succ]
            refine wpAnyH_ready (rs := [22]) (by kernel_rfl) (by simp) ?_
            refine AllReadyH.cons (o := { dst := none, op := Go.Op.store 9 (Go.Operand.tmp 84) (Go.Operand.tmp 83), type := 0, pos := "disk.go:223", after := #[{ on := 21, ground := Go.Ground.data }, { on := 20, ground := Go.Ground.data }, { on := 20, ground := Go.Ground.chain }, { on := 0, ground := Go.Ground.phase }, { on := 1, ground := Go.Ground.phase }, { on := 2, ground := Go.Ground.phase }, { on := 3, ground := Go.Ground.phase }, { on := 4, ground := Go.Ground.phase }, { on := 5, ground := Go.Ground.phase }, { on := 6, ground := Go.Ground.phase }, { on := 7, ground := Go.Ground.phase }, { on := 8, ground := Go.Ground.phase }, { on := 9, ground := Go.Ground.phase }, { on := 10, ground := Go.Ground.phase }, { on := 11, ground := Go.Ground.phase }, { on := 12, ground := Go.Ground.phase }, { on := 13, ground := Go.Ground.phase }, { on := 14, ground := Go.Ground.phase }, { on := 15, ground := Go.Ground.phase }, { on := 16, ground := Go.Ground.phase }, { on := 17, ground := Go.Ground.phase }, { on := 18, ground := Go.Ground.phase }, { on := 19, ground := Go.Ground.phase }, { on := 20, ground := Go.Ground.phase }], guard := none }) rfl (fun K hK => ?_) AllReadyH.nil
            go_simp
            refine hK.out _ _ ⟨(World.cell?_of_block (Below.heap_setCell w5 ⟨g, i, none⟩ _ D nDg.out)).trans hS5.1, (World.cell?_of_block (Below.heap_setCell w5 ⟨g, i, none⟩ _ D nDg.out)).trans hS5.2.1, (World.cell?_of_block (Below.heap_setCell w5 ⟨g, i, none⟩ _ gk ngk.out)).trans hS5.2.2⟩ (fun hS => ?_)
            try simp only [Act.put, List.setIfInBounds_toArray, List.set_cons_zero, List.set_cons_succ]
            clear hK K hS5 b0 b1 hS
            refine wpAnyH_done (by kernel_rfl) ?_ _
            go_wp2_with fail
            obtain ⟨V, hV⟩ : ∃ V, w5.setCell ⟨g, i, none⟩ (.string t) = V := ⟨_, rfl⟩
            have XV : RRep V O D (.slice (some ⟨g, 0, none⟩) L Nc) (.slice (some ⟨gk, 0, none⟩) L Kc) vn (.slice ka S.safe.length kc) (.slice ca S.chg.length cc) { T with now := T.now.set i t } := by rw [← hV]; exact (XW.out.below HB5.out).setNow i t
            have OV : V.ownsRow 0 127 2 (.slice (some ⟨gl, 0, none⟩) nn sc) nn (flatR N) := by
              rw [← hV]
              refine owns_same (owns_same OW.out fun z hz => HB5.out.block z (OW.out.lt z hz).2) (fun z hz => Below.heap_setCell w5 ⟨g, i, none⟩ _ z ?_)
              have e : gl = z := by simpa [Value.ownBlock] using hz
              rw [← e]; exact GLT.out.2.1
            have FV : Fr O O w V := by rw [← hV]; exact (FW.out.trans (Fr.below HB5.out)).trans (fr_at (XW.out.oN g rfl) _ _)
            have en : nowOf { T with now := T.now.set i t } i = t := by
              have := TLH.out.1
              unfold nowOf
              simp [List.getD_eq_getElem?_getD, List.getElem?_set, this]
            obtain ⟨q0, q1, q2, q3⟩ := XV.slots (by simpa using TLH.out.1) TLH.out.2
            rw [en] at q1
            obtain ⟨y0, y1⟩ := q0
            obtain ⟨y2, u2⟩ := q1
            have HXV : Hid (RRep V O D (.slice (some ⟨g, 0, none⟩) L Nc) (.slice (some ⟨gk, 0, none⟩) L Kc) vn (.slice ka S.safe.length kc) (.slice ca S.chg.length cc) { T with now := T.now.set i t }) := XV
            have HOV : Hid (V.ownsRow 0 127 2 (.slice (some ⟨gl, 0, none⟩) nn sc) nn (flatR N)) := OV
            have HFV : Hid (Fr O O w V) := FV
            rw [hV]
            clear hV XV OV FV en
            go_region
            go_wp2
            go_roundw
            case rel =>
              refine ⟨q + 1, hlt, by go_num, ?_, ?_, ?_⟩
              · show RRep _ _ _ _ _ _ _ _ _
                rw [TE.out, TT.out, ← HLL.out.1, HLL.out.2]
                exact (HXV.out.setKept i t).drew
              · show World.ownsRow _ _ _ _ _ _ _
                refine owns_same HOV.out fun z hz => ?_
                have e : gl = z := by simpa [Value.ownBlock] using hz
                exact Below.heap_setCell V ⟨gk, i, none⟩ (.string t) z (by rw [← e]; exact GLT.out.2.2)
              · exact (HFV.out.trans (fr_at (HXV.out.oK gk rfl) i (.string t))).trans (Fr.below ((Below.refl _ _).drew))
            case measure => simp [intOf]; omega
          · have TT : Hid (tearT n x y = x) := by show _ = _; unfold tearT sm; rw [hxy]; rfl
            go_wp2_with fail
            go_region
            go_wp2
            go_roundw
            case rel =>
              refine ⟨q + 1, hlt, by go_num, ?_, ?_, ?_⟩
              · show RRep _ _ _ _ _ _ _ _ _
                rw [TE.out, TT.out, XSAME.out, ← HLL.out.1, HLL.out.2]
                exact (XW.out.setKept i x).same (Nat.le_refl _) fun _ _ => rfl
              · show World.ownsRow _ _ _ _ _ _ _
                refine owns_same OW.out fun z hz => ?_
                have e : gl = z := by simpa [Value.ownBlock] using hz
                exact Below.heap_setCell wr ⟨gk, i, none⟩ (.string x) z (by rw [← e]; exact GLT.out.2.2)
              · exact (FW.out.trans (fr_at (XW.out.oK gk rfl) i (.string x))).trans (Fr.below (below_drewN (Below.refl _ _) _))
            case measure => simp [intOf]; omega
        · have hqn : q = N.length := by rw [← HNN.out]; omega
          subst hqn
          have own_lt : ∀ b, (Value.slice sa nn sc).ownBlock = some b → b < wr.heap.size := fun b hb => (World.ownsRow.lt OW.out b hb).2
          have X2 := XW.out.more (fun b => (Value.slice sa nn sc).ownBlock = some b) own_lt
          have HX2 : Hid (RRep wr (fun b => O b ∨ (Value.slice sa nn sc).ownBlock = some b) D vN vK vn (.slice ka S.safe.length kc) (.slice ca S.chg.length cc) (tears n S N N.length)) := X2
          have b2 : wr.cell? ⟨D, 2, none⟩ = some vn := cell_in X2.blk 2 _ rfl
          have b3 : wr.cell? ⟨D, 3, none⟩ = some (.slice ka S.safe.length kc) := cell_in X2.blk 3 _ rfl
          have b4 : wr.cell? ⟨D, 4, none⟩ = some (.slice ca S.chg.length cc) := cell_in X2.blk 4 _ rfl
          have b5 : wr.cell? ⟨D, 5, none⟩ = some (.int .i64 (tears n S N N.length).left) := cell_in X2.blk 5 _ rfl
          have b6 : wr.cell? ⟨D, 6, none⟩ = some (.int .i64 (tears n S N N.length).room) := cell_in X2.blk 6 _ rfl
          have f2 := unfrozen_in X2.blk 2
          have f3 := unfrozen_in X2.blk 3
          have f4 := unfrozen_in X2.blk 4
          have f5 := unfrozen_in X2.blk 5
          have f6 := unfrozen_in X2.blk 6
          clear X2 own_lt
          go_wp2
          go_end0
          have OE : OutR wr 0 (.slice sa nn sc) N := by unfold OutR; rw [← HNN.out]; exact OW.out
          refine ⟨fun b => O b ∨ (Value.slice sa nn sc).ownBlock = some b, .slice sa nn sc, .slice sa nn sc, .slice none 0 0, rfl, ?_, ?_⟩
          · rw [CR.out]
            refine HX2.out.put (by simp) ?_ ?_ ⟨HX2.out.now, HX2.out.oN⟩ ⟨HX2.out.kept, HX2.out.oK⟩ ⟨OE, fun b hb => Or.inr hb⟩ ⟨OE, fun b hb => Or.inr hb⟩ ⟨World.ownsRow_nil _ _ _ _, fun b hb => by simp [Value.ownBlock] at hb⟩ HX2.out.nk
            · rw [heap_set _ D 6 _ _ _ _ (heap_set _ D 5 _ _ _ _ (heap_set _ D 4 _ _ _ _ (heap_set _ D 3 _ _ _ _ (heap_set wr D 2 _ _ _ _ HX2.out.blk))))]; rfl
            · intro z hz
              rw [Below.heap_setCell _ ⟨D, 6, none⟩ _ z hz, Below.heap_setCell _ ⟨D, 5, none⟩ _ z hz, Below.heap_setCell _ ⟨D, 4, none⟩ _ z hz, Below.heap_setCell _ ⟨D, 3, none⟩ _ z hz, Below.heap_setCell _ ⟨D, 2, none⟩ _ z hz]
          · have oD := XW.out.oD
            have F5 : Fr O O w (((((wr.setCell ⟨D, 2, none⟩ (.slice sa nn sc)).setCell ⟨D, 3, none⟩ (.slice sa nn sc)).setCell ⟨D, 4, none⟩ (.slice none 0 0)).setCell ⟨D, 5, none⟩ (.int .i64 (-1))).setCell ⟨D, 6, none⟩ (.int .i64 (-1))) :=
              ((((FW.out.trans (fr_at oD _ _)).trans (fr_at oD _ _)).trans (fr_at oD _ _)).trans (fr_at oD _ _)).trans (fr_at oD _ _)
            exact ⟨F5.os, F5.tape, F5.output, F5.size, F5.block, fun b hb => by rcases hb with hb | hb; exact Or.inl hb; exact OU.out b hb⟩
end Go.Proofs.Ytnkgfoabadjboaa
