/-
  Crash of the program's disk. Conditions: the disk stands for a plain state; fewer than 2^41 entries.
-/
import Derived.Test.YtnkgfoabadjboaaDk17
namespace Go.Proofs.Ytnkgfoabadjboaa
open Go.RowKit
set_option linter.unusedVariables false
set_option linter.unusedSimpArgs false
theorem slice_len {w : World} {bs : Nat} {t : TypeId} {sz n : Nat} {v : Value} {xs : List Value} (h : w.ownsRow bs t sz v n xs) : ∃ a c, v = .slice a n c ∧ (0 < n → ∃ g, a = some ⟨g, 0, none⟩) := by
  rcases Go.Joins.ownsRow_forms h with ⟨rfl, rfl⟩ | ⟨g, cap, rfl⟩
  · exact ⟨_, _, rfl, fun h => absurd h (by omega)⟩
  · exact ⟨_, _, rfl, fun _ => ⟨g, rfl⟩⟩
/-- the names that are under way: whose they are -/
def Ours (O : Nat → Prop) (B0 : Nat) (v : Value) : Prop := ∀ b, v.ownBlock = some b → O b ∨ B0 ≤ b
theorem XRep.more {w : World} {O : Nat → Prop} {B : Nat} {fb : Nat → Nat} {vn vk vc : Value} {S : St} (h : XRep w O B fb vn vk vc S) (P : Nat → Prop) (hP : ∀ b, P b → b < w.heap.size) : XRep w (fun q => O q ∨ P q) B fb vn vk vc S where
  blk := h.blk
  names := h.names
  safe := h.safe
  chg := h.chg
  files := h.files
  inj := h.inj
  oB := Or.inl h.oB
  on b hb := Or.inl (h.on b hb)
  ok b hb := Or.inl (h.ok b hb)
  oc b hb := Or.inl (h.oc b hb)
  ofl i hi := Or.inl (h.ofl i hi)
  lt q hq := by rcases hq with hq | hq; exact h.lt q hq; exact hP q hq
theorem tears_succ (n : Int) (S : St) (N : List Ent) (q : Nat) : tears n S N (q + 1) = tear n (tears n S N q) (N.getD q dN).2 := rfl
set_option maxHeartbeats 8000000 in
set_option maxRecDepth 100000 in
theorem xcrash_any (O : Nat → Prop) (B : Nat) (fb : Nat → Nat) (vn vk vc : Value) (S : St) (m : Nat) (keep n : Int) (w : World) (h : XRep w O B fb vn vk vc S) (k : S.Ok m) (hm : m < 2199023255552) :
    Calls Try.prog 102 #[.pointer (some ⟨B, 0, none⟩), .int .i64 keep, .int .i64 n] w fun e w' => ∃ O' vn' vk' vc', e = .returned (.tuple #[]) ∧ XRep w' O' B fb vn' vk' vc' (crashS S keep n) ∧ Fr O O' w w' := by
  have HH : Hid (XRep w O B fb vn vk vc S) := h
  have HK : Hid (S.Ok m) := k
  obtain ⟨ca, cc, rfl, hca⟩ := slice_len h.chg
  obtain ⟨ka, kc, rfl, hka⟩ := slice_len h.safe
  rw [List.length_map] at *
  obtain ⟨c, hc⟩ : ∃ c, c = S.chg.length := ⟨_, rfl⟩
  have HC : Hid _ := hc
  have HCA : Hid (0 < S.chg.length → ∃ g, ca = some ⟨g, 0, none⟩) := hca
  have c1 : w.cell? ⟨B, 1, none⟩ = some (.slice ka S.safe.length kc) := cell_in h.blk 1 _ rfl
  have c2 : w.cell? ⟨B, 2, none⟩ = some (.slice ca S.chg.length cc) := cell_in h.blk 2 _ rfl
  have cb : c < 2199023255552 := by have := k.ls; omega
  rw [← hc] at c2
  clear h k hca hka hc
  go_enter Try.func102, Try.ntmps102
  go_wp2
  go_loopw [6, 20] (fun ov iv wr => ∃ (q : Nat) (sa : Option Addr) (sc : Nat), q ≤ c ∧ iv = .int .i64 q ∧ ov = .slice sa (cN S keep q).length sc ∧ Hid (OutE wr 0 (.slice sa (cN S keep q).length sc) ((cN S keep q).map (toE fb))) ∧ Hid (Ours O w.heap.size (.slice sa (cN S keep q).length sc)) ∧ Hid (Below w.heap.size w wr)) (fun _ iv _ => c - (intOf iv).toNat)
  case atStart => exact ⟨0, ka, kc, by omega, rfl, rfl, HH.out.safe, fun b hb => Or.inl (HH.out.ok b hb), Below.refl _ _⟩
  case round =>
    obtain ⟨q, sa, sc, hq, rfl, rfl, OW, OU, BW⟩ := hrel
    clear c1 c2
    have NL : Hid ((cN S keep q).length ≤ m) := by show _ ≤ _; have h1 := cN_len S keep q; have h2 := HK.out.ls; have h3 := HC.out; omega
    by_cases hlt : q < c
    · have hq2 : q < S.chg.length := by rw [← HC.out]; exact hlt
      obtain ⟨g, rfl⟩ := HCA.out (by omega)
      have XR1 := HH.out.below BW.out
      obtain ⟨a0, a1, a2⟩ := flatC_at fb S.chg q hq2
      have RW : wr.ownsRow 0 125 3 (.slice (some ⟨g, 0, none⟩) S.chg.length cc) S.chg.length (flatC fb S.chg) := XR1.chg
      have d0 := (RW.cellAt (q * 3) (by omega)).trans a0
      have d1 := (RW.cellAt (q * 3 + 1) (by omega)).trans a1
      have d2 := (RW.cellAt (q * 3 + 2) (by omega)).trans a2
      obtain ⟨gn, nm, o, hg⟩ : ∃ gn nm o, S.chg.getD q dC = (gn, nm, o) := ⟨_, _, _, rfl⟩
      rw [hg] at d0 d1 d2
      simp only at d0 d1 d2
      obtain ⟨p, hp⟩ : ∃ p, p = ptrE fb o := ⟨_, rfl⟩
      rw [← hp] at d2
      have HP : Hid _ := hp
      have HG : Hid _ := hg
      have ql : (q : Int) < (c : Int) := by omega
      have gl : Hid (g < wr.heap.size) := (RW.lt g rfl).2
      clear RW XR1 a0 a1 a2 hp hg hq2
      by_cases hkq : (q : Int) < keep
      · have ENT : Hid (Ents (wr.alloc (.cells #[.string gn, .string nm, .pointer p] 125)) (.slice sa (cN S keep q).length sc) ((cN S keep q).map (toE fb))) := ents_of (base := 0) (by rw [List.length_map]; exact World.ownsRow.alloc (by have := OW.out; unfold OutE at this; rw [List.length_map] at this; exact this) _) (by rw [List.length_map]; have := NL.out; omega)
        have LEN : Hid (((cN S keep q).map (toE fb)).length < 4398046511103) := by show _ < _; rw [List.length_map]; have := NL.out; omega
        have CE : Hid (cN S keep (q + 1) = turnN (cN S keep q) (gn, nm, o)) := by show _ = _; rw [cN_in S keep q hkq, HG.out]
        go_wp2_with (first
          | (go_at_call 131; refine (changed_any _ ((cN S keep q).map (toE fb)) gn nm p _ ENT.out LEN.out).mono ?_; rintro e w1 ⟨v', l', rfl, ho, hb, hpp, hs⟩
             have el : l' = (cN S keep (q + 1)).map (toE fb) := by rw [CE.out]; exact changed_eq fb (cN S keep q) (cN_rise HK.out keep q) (gn, nm, o) l' (by rw [HP.out] at hpp; exact hpp) hs
             subst el
             have ho2 := Go.Joins.ownsRow_le ho (Nat.zero_le _)
             rw [List.length_map] at ho2
             obtain ⟨sa2, sc2, rfl, hsa2⟩ := slice_len ho2
             have HO : Hid (OutE w1 0 (.slice sa2 (cN S keep (q + 1)).length sc2) ((cN S keep (q + 1)).map (toE fb))) := by show OutE _ _ _ _; unfold OutE; rw [List.length_map]; exact ho2
             have HU : Hid (Ours O w.heap.size (.slice sa2 (cN S keep (q + 1)).length sc2)) := fun b hbb => by
               have h1 := (World.ownsRow.lt ho b hbb).1
               have h2 := BW.out.size
               right
               simp at h1
               omega
             have HB1 : Hid (Below w.heap.size w w1) := (BW.out.alloc BW.out.size _).trans (hb.mono (BW.out.alloc BW.out.size _).size)
             clear ho ho2 hb hpp hs hsa2))
        go_roundw
        case rel => exact ⟨q + 1, sa2, sc2, by omega, by go_num, rfl, HO.out, HU.out, HB1.out⟩
        case measure => simp [intOf]; omega
      · have CE : Hid (cN S keep (q + 1) = cN S keep q) := cN_out S keep q hkq
        go_wp2
        go_roundw
        case rel => exact ⟨q + 1, sa, sc, by omega, by go_num, by rw [CE.out], by rw [CE.out]; exact World.ownsRow.alloc OW.out _, by rw [CE.out]; exact OU.out, BW.out.alloc BW.out.size _⟩
        case measure => simp [intOf]; omega
    · have hqc : q = S.chg.length := by rw [← HC.out]; omega
      subst hqc
      obtain ⟨N, hN⟩ : ∃ N, N = cN S keep S.chg.length := ⟨_, rfl⟩
      have CR : Hid (crashS S keep n = ⟨(tears n S N N.length).now, (tears n S N N.length).kept, N, N, [], -1, -1⟩) := by show _ = _; unfold crashS; rw [hN]
      have NN : Hid (∀ e ∈ N, e.2 < S.now.length) := by rw [hN]; exact cN_nums HK.out keep _ (Nat.le_refl _)
      rw [← hN] at OW OU NL ⊢
      clear hN HC HCA hq cb
      obtain ⟨nn, hnn⟩ : ∃ nn, nn = N.length := ⟨_, rfl⟩
      have HNN : Hid _ := hnn
      have OW0 : Hid (wr.ownsRow 0 138 2 (.slice sa N.length sc) N.length (flatE (N.map (toE fb)))) := by have := OW.out; unfold OutE at this; rw [List.length_map] at this; exact this
      have SAF : Hid (0 < N.length → ∃ g, sa = some ⟨g, 0, none⟩) := by
        show _ → _
        intro h0
        obtain ⟨a, cq, e, hh⟩ := slice_len OW0.out
        injection e with e1 _ _
        rw [e1]
        exact hh h0
      have nb : nn < 2199023255552 := by rw [hnn]; have := NL.out; omega
      rw [← hnn] at OW0 OU ⊢
      clear hnn OW
      go_wp2
      go_loopw [34] (fun iv wz => ∃ q : Nat, q ≤ nn ∧ iv = .int .i64 q ∧ Hid (XRep wz O B fb vn (.slice ka S.safe.length kc) (.slice ca S.chg.length cc) (tears n S N q)) ∧ Hid (wz.ownsRow 0 138 2 (.slice sa nn sc) nn (flatE (N.map (toE fb)))) ∧ Hid (Fr O O w wz)) (fun iv _ => nn - (intOf iv).toNat)
      case atStart => exact ⟨0, by omega, rfl, HH.out.below BW.out, OW0.out, Fr.below BW.out⟩
      case round =>
        clear BW OW0
        obtain ⟨q, hq, rfl, XW, OW, FW⟩ := hrel
        by_cases hlt : q < nn
        · have hq2 : q < N.length := by rw [← HNN.out]; exact hlt
          obtain ⟨g, rfl⟩ := SAF.out (by omega)
          have eN : N.getD q dN = N[q] := by rw [List.getD_eq_getElem?_getD, List.getElem?_eq_getElem hq2]; rfl
          obtain ⟨i, hi⟩ : ∃ i, i = N[q].2 := ⟨_, rfl⟩
          obtain ⟨nm, hnm⟩ : ∃ s, s = N[q].1 := ⟨_, rfl⟩
          have eE : (N.map (toE fb)).getD q dE = (nm, some ⟨fb i, 0, none⟩) := by
            rw [List.getD_eq_getElem?_getD, List.getElem?_map, List.getElem?_eq_getElem hq2, hi, hnm]; rfl
          have hil : i < S.now.length := by rw [hi]; exact NN.out _ (List.getElem_mem hq2)
          obtain ⟨T, hT⟩ : ∃ T, T = tears n S N q := ⟨_, rfl⟩
          have TS : Hid (tears n S N (q + 1) = tear n T i) := by show _ = _; rw [tears_succ, eN, ← hi, ← hT]
          have TL : Hid (i < T.now.length) := by show _ < _; rw [hT, (tears_now n S N q).1]; exact hil
          have TK : Hid (T.Ok m) := by rw [hT]; exact tears_ok HK.out n N NN.out q (by omega)
          rw [← hT] at XW
          obtain ⟨r0, r1⟩ := flatE_at (N.map (toE fb)) q (by simpa using hq2)
          rw [eE] at r0 r1
          have d0 : wr.cell? ⟨g, q * 2, none⟩ = some (.string nm) := (OW.out.cellAt (q * 2) (by omega)).trans r0
          have d1 : wr.cell? ⟨g, q * 2 + 1, none⟩ = some (.pointer (some ⟨fb i, 0, none⟩)) := (OW.out.cellAt (q * 2 + 1) (by omega)).trans r1
          have ql : (q : Int) < (nn : Int) := by omega
          have gl : Hid (g < wr.heap.size) := (OW.out.lt g rfl).2
          clear r0 r1 eE eN hi hnm hil hT hq2
          go_upto_region 10 with fail
          obtain ⟨V, hV⟩ : ∃ V, wr.alloc (.cells #[.string nm, .pointer (some ⟨fb i, 0, none⟩)] 138) = V := ⟨_, rfl⟩
          have BV : Below wr.heap.size wr V := by rw [← hV]; exact (Below.refl _ _).alloc (Nat.le_refl _) _
          have bx : V.heap[wr.heap.size]? = some (.cells #[.string nm, .pointer (some ⟨fb i, 0, none⟩)] 138 (0, 0)) := by rw [← hV]; exact heap_alloc_new wr _
          have XV : XRep V O B fb vn (.slice ka S.safe.length kc) (.slice ca S.chg.length cc) T := XW.out.below BV
          have fl := XV.files i TL.out
          have OV : V.ownsRow 0 138 2 (.slice (some ⟨g, 0, none⟩) nn sc) nn (flatE (N.map (toE fb))) := owns_same OW.out fun z hz => BV.block z (OW.out.lt z hz).2
          have FV : Fr O O w V := FW.out.trans (Fr.below BV)
          rw [hV]
          obtain ⟨x, hx⟩ : ∃ x, x = nowOf T i := ⟨_, rfl⟩
          obtain ⟨y, hy⟩ : ∃ y, y = keptOf T i := ⟨_, rfl⟩
          have fl2 : V.heap[fb i]? = some (.cells #[.string x, .string y] 122 (0, 0)) := by rw [hx, hy]; exact fl
          have xs : x.size ≤ maxLen := by rw [hx]; have := now_lt TK.out TL.out; unfold maxLen; omega
          have ys : y.size ≤ maxLen := by rw [hy]; have := kept_lt TK.out TL.out; unfold maxLen; omega
          have z1 : V.cell? ⟨wr.heap.size, 1, none⟩ = some (.pointer (some ⟨fb i, 0, none⟩)) := cell_in bx 1 _ rfl
          have y0 : V.cell? ⟨fb i, 0, none⟩ = some (.string x) := cell_in fl2 0 _ rfl
          have y1 : V.cell? ⟨fb i, 1, none⟩ = some (.string y) := cell_in fl2 1 _ rfl
          have u0 := unfrozen_in fl2 0
          have u1 := unfrozen_in fl2 1
          have ne1 : ¬ wr.heap.size = fb i := kind_ne bx fl2 (by decide)
          have ne2 : ¬ fb i = wr.heap.size := fun e => ne1 e.symm
          have TE : Hid (tears n S N (q + 1) = { T with now := T.now.set i (tearT n x y), kept := T.kept.set i (tearT n x y) }) := by show _ = _; rw [TS.out, hx, hy]; rfl
          have HXV : Hid (XRep V O B fb vn (.slice ka S.safe.length kc) (.slice ca S.chg.length cc) T) := XV
          have HOV : Hid (V.ownsRow 0 138 2 (.slice (some ⟨g, 0, none⟩) nn sc) nn (flatE (N.map (toE fb)))) := OV
          have HFV : Hid (Fr O O w V) := FV
          have HFL : Hid (V.heap[fb i]? = some (.cells #[.string x, .string y] 122 (0, 0))) := fl2
          have DONE : Hid (∀ V2 : World, V2.os = V.os → V2.tape = V.tape → V2.output = V.output → V2.heap.size = V.heap.size → V2.heap[fb i]? = some (.cells #[.string (tearT n x y), .string (tearT n x y)] 122 (0, 0)) → (∀ z, z ≠ fb i → V2.heap[z]? = V.heap[z]?) → XRep V2 O B fb vn (.slice ka S.safe.length kc) (.slice ca S.chg.length cc) (tears n S N (q + 1)) ∧ V2.ownsRow 0 138 2 (.slice (some ⟨g, 0, none⟩) nn sc) nn (flatE (N.map (toE fb))) ∧ Fr O O w V2) := by
            show ∀ V2 : World, _
            intro V2 h1 h2 h3 h4 h5 h6
            refine ⟨?_, owns_same OV fun z hz => h6 z (fun e => row_ne fl2 OV (by decide) z hz e.symm), ?_⟩
            · rw [TE.out]; exact XV.putFile TK.out.len TL.out h4 h5 h6
            · exact FV.trans ⟨h1, h2, h3, by omega, fun z _ hO => h6 z (fun e => hO (by rw [e]; exact XV.ofl i TL.out)), fun _ h => Or.inl h⟩
          clear hV BV bx XV fl OV FV fl2 hx hy d0 d1 XW OW FW TS TE
          go_quiet (fail)
          cases hxy : (x.toList == y.toList)
          · have TT : Hid (tearT n x y = tornB x y n) := by show _ = _; unfold tearT sm; rw [hxy]; rfl
            obtain ⟨t, ht⟩ : ∃ t, t = tornB x y n := ⟨_, rfl⟩
            have TO : Hid (∀ W : World, W.cell? ⟨fb i, 0, none⟩ = some (.string x) → W.cell? ⟨fb i, 1, none⟩ = some (.string y) → Calls Try.prog 132 #[.pointer (some ⟨fb i, 0, none⟩), .int .i64 n] W fun e w' => e = .returned (.string t) ∧ ∃ n, w' = W.drewN n) := fun W h1 h2 => by rw [ht]; exact torn_any (fb i) x y n W xs ys h1 h2
            rw [← ht] at TT
            clear ht
            go_wp2_with fail
            go_region_with (first
              | (go_at_call 132; refine (TO.out (V.drewN (nq + 1)) y0 y1).mono ?_; rintro e w5 ⟨rfl, nd, hw5⟩; subst w5))
            all_goals go_wp2_with fail
            all_goals go_region
            all_goals go_wp2
            all_goals go_roundw
            all_goals first
              | (refine ⟨q + 1, hlt, by go_num, ?_⟩
                 refine DONE.out _ ?_ ?_ ?_ ?_ ?_ ?_
                 · rfl
                 · rfl
                 · rfl
                 · show ((V.setCell ⟨fb i, 0, none⟩ (.string t)).setCell ⟨fb i, 1, none⟩ (.string t)).heap.size = _; simp
                 · show ((V.setCell ⟨fb i, 0, none⟩ (.string t)).setCell ⟨fb i, 1, none⟩ (.string t)).heap[fb i]? = _; rw [heap_set _ (fb i) 1 _ _ _ _ (heap_set V (fb i) 0 _ _ _ _ HFL.out), TT.out]; rfl
                 · intro z hz; exact (Below.heap_setCell (V.setCell ⟨fb i, 0, none⟩ (.string t)) ⟨fb i, 1, none⟩ (.string t) z hz).trans (Below.heap_setCell V ⟨fb i, 0, none⟩ (.string t) z hz))
              | (simp [intOf]; omega)
          · have TT : Hid (tearT n x y = x) := by show _ = _; unfold tearT sm; rw [hxy]; rfl
            go_wp2_with fail
            go_region
            go_wp2
            go_roundw
            case rel =>
              refine ⟨q + 1, hlt, by go_num, ?_⟩
              refine DONE.out _ ?_ ?_ ?_ ?_ ?_ ?_
              · rfl
              · rfl
              · rfl
              · show (V.setCell ⟨fb i, 1, none⟩ (.string x)).heap.size = _; simp
              · show (V.setCell ⟨fb i, 1, none⟩ (.string x)).heap[fb i]? = _; rw [heap_set V (fb i) 1 _ _ _ _ HFL.out, TT.out]; rfl
              · intro z hz; exact Below.heap_setCell V ⟨fb i, 1, none⟩ (.string x) z hz
            case measure => simp [intOf]; omega
        · have hqn : q = N.length := by rw [← HNN.out]; omega
          subst hqn
          have own_lt : ∀ b, (Value.slice sa nn sc).ownBlock = some b → b < wr.heap.size := fun b hb => (World.ownsRow.lt OW.out b hb).2
          have X2 := XW.out.more (fun b => (Value.slice sa nn sc).ownBlock = some b) own_lt
          have HX2 : Hid (XRep wr (fun b => O b ∨ (Value.slice sa nn sc).ownBlock = some b) B fb vn (.slice ka S.safe.length kc) (.slice ca S.chg.length cc) (tears n S N N.length)) := X2
          have b0 : wr.cell? ⟨B, 0, none⟩ = some vn := cell_in X2.blk 0 _ rfl
          have b1 : wr.cell? ⟨B, 1, none⟩ = some (.slice ka S.safe.length kc) := cell_in X2.blk 1 _ rfl
          have b2 : wr.cell? ⟨B, 2, none⟩ = some (.slice ca S.chg.length cc) := cell_in X2.blk 2 _ rfl
          have b3 : wr.cell? ⟨B, 3, none⟩ = some (.int .i64 (tears n S N N.length).left) := cell_in X2.blk 3 _ rfl
          have b4 : wr.cell? ⟨B, 4, none⟩ = some (.int .i64 (tears n S N N.length).room) := cell_in X2.blk 4 _ rfl
          have f0 := unfrozen_in X2.blk 0
          have f1 := unfrozen_in X2.blk 1
          have f2 := unfrozen_in X2.blk 2
          have f3 := unfrozen_in X2.blk 3
          have f4 := unfrozen_in X2.blk 4
          have HOL : Hid (∀ b, (Value.slice sa nn sc).ownBlock = some b → b < wr.heap.size) := own_lt
          clear X2 own_lt
          go_wp2
          go_end0
          have OE : OutE wr 0 (.slice sa nn sc) (N.map (toE fb)) := by unfold OutE; rw [List.length_map, ← HNN.out]; exact OW.out
          refine ⟨fun b => O b ∨ (Value.slice sa nn sc).ownBlock = some b, .slice sa nn sc, .slice sa nn sc, .slice none 0 0, rfl, ?_, ?_⟩
          · rw [CR.out]
            refine HX2.out.put (by simp) ?_ ?_ ⟨OE, fun b hb => Or.inr hb⟩ ⟨OE, fun b hb => Or.inr hb⟩ ⟨World.ownsRow_nil _ _ _ _, fun b hb => by simp [Value.ownBlock] at hb⟩
            · rw [heap_set _ B 4 _ _ _ _ (heap_set _ B 3 _ _ _ _ (heap_set _ B 2 _ _ _ _ (heap_set _ B 1 _ _ _ _ (heap_set wr B 0 _ _ _ _ HX2.out.blk))))]; rfl
            · intro z hz
              rw [Below.heap_setCell _ ⟨B, 4, none⟩ _ z hz, Below.heap_setCell _ ⟨B, 3, none⟩ _ z hz, Below.heap_setCell _ ⟨B, 2, none⟩ _ z hz, Below.heap_setCell _ ⟨B, 1, none⟩ _ z hz, Below.heap_setCell _ ⟨B, 0, none⟩ _ z hz]
          · have oB := XW.out.oB
            have F5 : Fr O O w (((((wr.setCell ⟨B, 0, none⟩ (.slice sa nn sc)).setCell ⟨B, 1, none⟩ (.slice sa nn sc)).setCell ⟨B, 2, none⟩ (.slice none 0 0)).setCell ⟨B, 3, none⟩ (.int .i64 (-1))).setCell ⟨B, 4, none⟩ (.int .i64 (-1))) :=
              ((((FW.out.trans (fr_at oB _ _)).trans (fr_at oB _ _)).trans (fr_at oB _ _)).trans (fr_at oB _ _)).trans (fr_at oB _ _)
            exact ⟨F5.os, F5.tape, F5.output, F5.size, F5.block, fun b hb => by rcases hb with hb | hb; exact Or.inl hb; exact OU.out b hb⟩
end Go.Proofs.Ytnkgfoabadjboaa
