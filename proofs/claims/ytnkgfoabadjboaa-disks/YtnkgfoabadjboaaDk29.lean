/-
  Write, by the document. Conditions: the disk stands for a plain state; fewer than 2^41 entries; lengths are ints.
-/
import Derived.Test.YtnkgfoabadjboaaDk29a
namespace Go.Proofs.Ytnkgfoabadjboaa
open Go.RowKit
set_option linter.unusedVariables false
set_option linter.unusedSimpArgs false
set_option maxHeartbeats 8000000 in
set_option maxRecDepth 100000 in
theorem rwrite_any (O : Nat → Prop) (D : Nat) (vN vK vn vs vc : Value) (S : St) (m : Nat) (s t : ByteArray) (w : World) (h : RRep w O D vN vK vn vs vc S) (k : S.Ok m) (hm0 : m < 2199023255551) (hss : s.size ≤ maxLen) (hts : t.size ≤ maxLen) :
    Calls Try.prog 88 #[.pointer (some ⟨D, 0, none⟩), .string s, .string t] w fun e w' => ∃ O' vN' vK' vn' vc', e = .returned (.int .i64 (wrE S s t)) ∧ RRep w' O' D vN' vK' vn' vs vc' (wrS S s t) ∧ Fr O O' w w' := by
  have hm : m < 2199023255552 := by omega
  have HH : Hid (RRep w O D vN vK vn vs vc S) := h
  have HK : Hid (S.Ok m) := k
  unfold maxLen at hts
  by_cases h0 : S.left = 0
  · have R : Hid (wrE S s t = 6 ∧ wrS S s t = S) := by show _ ∧ _; unfold wrE wrS; rw [if_pos h0, if_pos h0]; exact ⟨rfl, rfl⟩
    have OPN : Hid _ := h0
    clear h k h0
    go_enter Try.func88, Try.ntmps88
    go_wp2_with (first | (go_at_call 124; refine (rmay_none O D vN vK vn vs vc S _ HH.out OPN.out).mono ?_; rintro e w' ⟨rfl, hw'⟩; subst w'))
    go_ret
    exact ⟨O, vN, vK, vn, vc, ret_int R.out.1.symm, by rw [R.out.2]; exact HH.out, Fr.refl _ _⟩
  · have OPN : Hid _ := h0
    cases hn0 : isNm s
    · have R : Hid (wrE S s t = 4 ∧ wrS S s t = opS S) := by show _ ∧ _; unfold wrE wrS; rw [if_neg h0, if_neg h0, if_pos hn0, if_pos hn0]; exact ⟨rfl, rfl⟩
      clear h k h0
      go_enter Try.func88, Try.ntmps88
      go_wp2_with (first
        | (go_at_call 124; refine (rmay_some O D vN vK vn vs vc S m _ HH.out HK.out OPN.out).mono ?_; rintro e w1 ⟨rfl, X1, F1⟩
           have HX1 : Hid (RRep w1 O D vN vK vn vs vc (opS S)) := X1
           have HF1 : Hid (Fr O O w w1) := F1
           clear X1 F1)
        | (go_at_call 125; refine (isName_any s _ hss).mono ?_; rintro e w' ⟨rfl, hw'⟩; subst w'; rw [hn0]))
      go_ret
      exact ⟨O, vN, vK, vn, vc, ret_int R.out.1.symm, by rw [R.out.2]; exact HX1.out, HF1.out⟩
    · have WE : Hid (wrE S s t = if fullW S s t then 5 else 0) := by show _ = _; unfold wrE; rw [if_neg h0, if_neg (by rw [hn0]; simp)]
      have WS : Hid (wrS S s t = if fullW S s t then opS S else match findN S.names s with | some i => putN (opS S) i t | none => putN (chgS (newF (opS S)) (s, s, some S.now.length)) S.now.length t) := by show _ = _; unfold wrS; rw [if_neg h0, if_neg (by rw [hn0]; simp)]; rfl
      obtain ⟨na, nc, rfl, hna⟩ := slice_len h.names
      obtain ⟨Na, Nc, rfl, hNa⟩ := slice_len h.now
      obtain ⟨Ka, Kc, rfl, hKa⟩ := slice_len h.kept
      obtain ⟨nn, hnn⟩ : ∃ x, x = S.names.length := ⟨_, rfl⟩
      obtain ⟨L, hL⟩ : ∃ x, x = S.now.length := ⟨_, rfl⟩
      obtain ⟨rm, hrm⟩ : ∃ r, r = S.room := ⟨_, rfl⟩
      have r0 := k.r0
      have hnb : nn < 2199023255551 := by rw [hnn]; have := k.ln; omega
      have hLb : L < 2199023255551 := by rw [hL]; have := k.lf; omega
      have HNA : Hid (0 < nn → ∃ g, na = some ⟨g, 0, none⟩) := by rw [hnn]; exact hna
      have HNN : Hid (0 < L → ∃ g, Na = some ⟨g, 0, none⟩) := by rw [hL]; exact hNa
      have hlk : S.kept.length = L := by rw [k.len, hL]
      rw [← hrm] at r0
      rw [hlk, ← hL, ← hnn] at HH
      have HL : Hid _ := hL
      have HN : Hid _ := hnn
      have HLK : Hid _ := hlk
      have FU : Hid (fullW S s t ↔ 0 ≤ rm ∧ rm < wrap64 ((t.size : Int) + bytesN S s nn)) := by show _ ↔ _; rw [hrm, hnn, Int.add_comm]; unfold fullW; exact Iff.rfl
      have HRM : Hid _ := hrm
      clear h k h0 hna hNa hKa hnn hL hrm hlk
      go_enter Try.func88, Try.ntmps88
      go_wp2_with (first
        | (go_at_call 124; refine (rmay_some O D _ _ _ vs vc S m _ HH.out HK.out OPN.out).mono ?_; rintro e w1 ⟨rfl, X1, F1⟩
           have HX1 : Hid (RRep w1 O D (.slice Na L Nc) (.slice Ka L Kc) (.slice na nn nc) vs vc (opS S)) := X1
           have HF1 : Hid (Fr O O w w1) := F1
           clear X1 F1)
        | (go_at_call 125; refine (isName_any s _ hss).mono ?_; rintro e w' ⟨rfl, hw'⟩; subst w'; rw [hn0]))
      go_loopw [8, 9] (fun nv iv wr => ∃ q : Nat, q ≤ nn ∧ iv = .int .i64 q ∧ nv = .int .i64 (wrap64 ((t.size : Int) + bytesN S s q)) ∧ Hid (Below w1.heap.size w1 wr)) (fun _ iv _ => nn - (intOf iv).toNat)
      case atStart => exact ⟨0, by omega, rfl, congrArg _ (used_zero S s t (by omega)), Below.refl _ _⟩
      case round =>
        obtain ⟨q, hq, rfl, rfl, BW⟩ := hrel
        have XR : Hid (RRep wr O D (.slice Na L Nc) (.slice Ka L Kc) (.slice na nn nc) vs vc (opS S)) := HX1.out.below BW.out
        have d2 : wr.cell? ⟨D, 2, none⟩ = some (.slice na nn nc) := cell_in XR.out.blk 2 _ rfl
        by_cases hlt : q < nn
        · have hq2 : q < S.names.length := by rw [← HN.out]; exact hlt
          obtain ⟨gn, rfl⟩ := HNA.out (by omega)
          obtain ⟨nm, hnm⟩ : ∃ x, x = (S.names.getD q dN).1 := ⟨_, rfl⟩
          obtain ⟨i, hi⟩ : ∃ x, x = (S.names.getD q dN).2 := ⟨_, rfl⟩
          have hil : i < L := by
            rw [hi, HL.out, List.getD_eq_getElem?_getD, List.getElem?_eq_getElem hq2]
            exact HK.out.nums _ (List.getElem_mem hq2)
          obtain ⟨g, rfl⟩ := HNN.out (by omega)
          have RN : wr.ownsRow 0 127 2 (.slice (some ⟨gn, 0, none⟩) nn nc) nn (flatR S.names) := by have := XR.out.names; unfold OutR at this; rw [show (opS S).names.length = nn from HN.out.symm] at this; exact this
          have RT : wr.ownsRow 0 9 1 (.slice (some ⟨g, 0, none⟩) L Nc) L (strs9 S.now) := by have := XR.out.now; unfold OutS at this; rw [show (opS S).now.length = L from HL.out.symm] at this; exact this
          have d3 : wr.cell? ⟨gn, q * 2, none⟩ = some (.string nm) := (RN.cellAt (q * 2) (by omega)).trans (by rw [hnm]; exact (flatR_at S.names q hq2).1)
          have d4 : wr.cell? ⟨gn, q * 2 + 1, none⟩ = some (.int .i64 (i : Int)) := (RN.cellAt (q * 2 + 1) (by omega)).trans (by rw [hi]; exact (flatR_at S.names q hq2).2)
          have d0 : wr.cell? ⟨D, 0, none⟩ = some (.slice (some ⟨g, 0, none⟩) L Nc) := cell_in XR.out.blk 0 _ rfl
          obtain ⟨x, hx⟩ : ∃ x, x = nowOf S i := ⟨_, rfl⟩
          have hxs : x.size < 4611686018427387904 := by rw [hx]; exact now_lt HK.out (by rw [← HL.out]; exact hil)
          have d5 : wr.cell? ⟨g, i, none⟩ = some (.string x) := (RT.cellAt i (by omega)).trans (by
            have hil2 : i < S.now.length := by rw [← HL.out]; exact hil
            rw [hx]; unfold strs9 nowOf
            rw [List.getElem?_map, List.getD_eq_getElem?_getD, List.getElem?_eq_getElem hil2]; rfl)
          have BS : Hid (bytesN S s (q + 1) = bytesN S s q + if sm nm s = true then 0 else (x.size : Int)) := by show _ = _; rw [bytesN_succ, ← hnm, ← hi, ← hx]
          obtain ⟨us, hus⟩ : ∃ u, u = bytesN S s q := ⟨_, rfl⟩
          rw [← hus] at BS ⊢
          have ql : (q : Int) < (nn : Int) := by omega
          have il : (i : Int) < (L : Int) := by omega
          have i0 : (0 : Int) ≤ (i : Int) := by omega
          clear RN RT hq2 hnm hi hx hil hus
          cases hqs : (nm.toList == s.toList)
          · have R' : Hid (wrap64 ((t.size : Int) + bytesN S s (q + 1)) = wrap64 (wrap64 ((t.size : Int) + us) + (x.size : Int))) := by
              show _ = _
              rw [BS.out, show sm nm s = false from hqs, ← used_next]; rfl
            clear BS
            go_upto_region 12 with fail
            go_quiet (fail)
            go_wp2
            go_roundw
            case rel => exact ⟨q + 1, by omega, by go_num, congrArg _ R'.out.symm, below_drewN BW.out _⟩
            case measure => simp [intOf]; omega
          · have R' : Hid (bytesN S s (q + 1) = us) := by show _ = _; rw [BS.out, show sm nm s = true from hqs]; simp
            clear BS
            go_wp2
            go_roundw
            case rel => exact ⟨q + 1, by omega, by go_num, by rw [R'.out], BW.out⟩
            case measure => simp [intOf]; omega
        · have hqe : q = nn := by omega
          subst hqe
          obtain ⟨uv, huv⟩ : ∃ u, wrap64 ((t.size : Int) + bytesN S s q) = u := ⟨_, rfl⟩
          rw [huv] at FU ⊢
          have FW : Hid (Fr O O w wr) := HF1.out.trans (Fr.below BW.out)
          have d6 : wr.cell? ⟨D, 6, none⟩ = some (.int .i64 rm) := by rw [HRM.out]; exact cell_in XR.out.blk 6 _ rfl
          clear huv
          by_cases hfl : 0 ≤ rm ∧ rm < uv
          · obtain ⟨hr, hf⟩ := hfl
            have ff : fullW S s t := FU.out.2 ⟨hr, hf⟩
            have R : Hid (wrE S s t = 5 ∧ wrS S s t = opS S) := by show _ ∧ _; rw [WE.out, WS.out, if_pos ff, if_pos ff]; exact ⟨rfl, rfl⟩
            clear ff
            go_wp2
            go_ret
            exact ⟨O, _, _, _, vc, ret_int R.out.1.symm, by rw [R.out.2]; exact XR.out, FW.out⟩
          · have nf : ¬ fullW S s t := fun h => hfl (FU.out.1 h)
            cases hf : findN S.names s with
            | some i =>
              have R : Hid (wrE S s t = 0 ∧ wrS S s t = putN (opS S) i t) := by show _ ∧ _; rw [WE.out, WS.out, if_neg nf, if_neg nf, hf]; exact ⟨rfl, rfl⟩
              have hil : i < L := by rw [HL.out]; exact find_lt HK.out hf
              obtain ⟨g, rfl⟩ := HNN.out (by omega)
              have FD : Hid (Calls Try.prog 126 #[.slice na q nc, .string s] wr fun e w' => e = .returned (.int .i64 (i : Int)) ∧ w' = wr) := rfind_some O D _ _ _ vs vc (opS S) m s i wr XR.out HK.out.op hm hf
              have RT : wr.ownsRow 0 9 1 (.slice (some ⟨g, 0, none⟩) L Nc) L (strs9 S.now) := by have := XR.out.now; unfold OutS at this; rw [show (opS S).now.length = L from HL.out.symm] at this; exact this
              have d5 : wr.cell? ⟨g, i, none⟩ = some (.string (nowOf S i)) := (RT.cellAt i (by omega)).trans (by
                have hil2 : i < S.now.length := by rw [← HL.out]; exact hil
                unfold strs9 nowOf
                rw [List.getElem?_map, List.getD_eq_getElem?_getD, List.getElem?_eq_getElem hil2]; rfl)
              have f5 : wr.frozen? ⟨g, i, none⟩ = false := RT.frozenAt i
              have d0 : wr.cell? ⟨D, 0, none⟩ = some (.slice (some ⟨g, 0, none⟩) L Nc) := cell_in XR.out.blk 0 _ rfl
              have il : (i : Int) < (L : Int) := by omega
              have i0 : (0 : Int) ≤ (i : Int) := by omega
              have DN : Hid (∃ O' vN' vK' vn' vc', wrE S s t = 0 ∧ RRep (wr.setCell ⟨g, i, none⟩ (.string t)) O' D vN' vK' vn' vs vc' (wrS S s t) ∧ Fr O O' w (wr.setCell ⟨g, i, none⟩ (.string t))) :=
                ⟨O, _, _, _, vc, R.out.1, by rw [R.out.2]; exact XR.out.setNow i t, FW.out.trans (fr_at (XR.out.oN g rfl) _ _)⟩
              clear nf hf RT R hil
              by_cases hr : 0 ≤ rm
              all_goals
                have hru : ¬ (0 ≤ rm ∧ rm < uv) := hfl
                clear hfl
              · have hr2 : uv ≤ rm := by omega
                clear hru
                go_wp2_with (first | (go_at_call 126; refine Calls.mono FD.out ?_; rintro e w' ⟨rfl, hw'⟩; subst w'))
                go_ret
                obtain ⟨O', a, b, c, d, q0, q1, q2⟩ := DN.out
                exact ⟨O', a, b, c, d, ret_int q0.symm, q1, q2⟩
              · have hr2 : rm < 0 := by omega
                clear hru
                go_wp2_with (first | (go_at_call 126; refine Calls.mono FD.out ?_; rintro e w' ⟨rfl, hw'⟩; subst w'))
                go_ret
                obtain ⟨O', a, b, c, d, q0, q1, q2⟩ := DN.out
                exact ⟨O', a, b, c, d, ret_int q0.symm, q1, q2⟩
            | none =>
              have R : Hid (wrE S s t = 0 ∧ wrS S s t = putN (chgS (newF (opS S)) (s, s, some S.now.length)) S.now.length t) := by show _ ∧ _; rw [WE.out, WS.out, if_neg nf, if_neg nf, hf]; exact ⟨rfl, rfl⟩
              have FD : Hid (Calls Try.prog 126 #[.slice na q nc, .string s] wr fun e w' => e = .returned (.int .i64 (-1)) ∧ w' = wr) := rfind_none O D _ _ _ vs vc (opS S) m s wr XR.out HK.out.op hm hf
              obtain ⟨j0, hi, hz0, hz1, hz2⟩ := info_parts Try.infoS
              have INF : Hid _ := And.intro hi (And.intro hz0 (And.intro hz1 hz2))
              have d0 : wr.cell? ⟨D, 0, none⟩ = some (.slice Na L Nc) := cell_in XR.out.blk 0 _ rfl
              have X0 : Hid (RRep (wr.alloc (.cells #[.string (ByteArray.mk #[])] 9)) O D (.slice Na L Nc) (.slice Ka L Kc) (.slice na q nc) vs vc (opS S)) := XR.out.below ((Below.refl _ _).alloc (Nat.le_refl _) _)
              have OC1 : Hid ((wr.alloc (.cells #[.string (ByteArray.mk #[])] 9)).ownsRow 0 9 1 (.slice Na L Nc) L (strs9 S.now)) := by
                have := X0.out.now; unfold OutS at this; rw [show (opS S).now.length = L from HL.out.symm] at this; exact this
              have c3 : Hid (L + 1 ≤ maxLen) := by show _ ≤ _; unfold maxLen; omega
              have c4 : Hid ((L + 1) * 16 ≤ 140737488355328) := by show _ ≤ _; omega
              have key : (0 ≤ rm ∧ uv ≤ rm) ∨ rm < 0 := by omega
              clear nf hf hfl hi hz0 hz1 hz2
              rcases key with ⟨hr1, hr2⟩ | hr1
              all_goals
                go_upto_region 19 with (first
                  | (go_at_call 126; refine Calls.mono FD.out ?_; rintro e w' ⟨rfl, hw'⟩; subst w')
                  | (at_builtin; refine wpList_append_lies _ rfl _ _ 93 rfl 0 9 j0 _ 1 16 Try.underlying93 INF.out.1 INF.out.2.1 INF.out.2.2.1 INF.out.2.2.2 rfl (by decide) _ _ _ rfl OC1.out ⟨wr.heap.size, 0, none⟩ 1 1 [.string (ByteArray.mk #[])] rfl rfl (one_str _ _ rfl _) (one_strc _) (by decide) c3.out c4.out (Nat.zero_le _) _ rfl ?_
                     intro g2 cap2 wa hown hgrow hat hlt2
                     have b2 := rnow_blk X0.out hgrow
                     have z0 : wa.cell? ⟨D, 0, none⟩ = some (.slice Na L Nc) := cell_in b2 0 _ rfl
                     have z1 : wa.frozen? ⟨D, 0, none⟩ = false := unfrozen_in b2 0
                     have HXa : Hid _ := X0.out.growNow (L := S.now ++ [ByteArray.mk #[]]) hgrow (by rw [List.length_append, ← strs9_app, ← HL.out]; exact hown) rfl (hat.imp id (fun e => by rw [e]; exact Nat.le_refl _))
                     have HFa : Hid _ := fr_grow (n := L + 1) (c := cap2) (off := 0) X0.out.oD X0.out.oN ((Below.refl wr.heap.size wr).alloc (Nat.le_refl _) _) hgrow (hat.imp id (fun e => by rw [e]; simp)) (.slice (some ⟨g2, 0, none⟩) (L + 1) cap2)
                     clear b2 hown hgrow hat hlt2))
                obtain ⟨Va, hVa⟩ : ∃ V, wa.setCell ⟨D, 0, none⟩ (.slice (some ⟨g2, 0, none⟩) (L + 1) cap2) = V := ⟨_, rfl⟩
                have XVa := HXa.out
                have FVa := HFa.out
                rw [hVa] at XVa FVa ⊢
                obtain ⟨O1, hO1⟩ : ∃ P : Nat → Prop, P = fun k => O k ∨ (Value.slice (some ⟨g2, 0, none⟩) (L + 1) cap2).ownBlock = some k := ⟨_, rfl⟩
                rw [← hO1] at XVa FVa
                have HXVa : Hid (RRep Va O1 D (.slice (some ⟨g2, 0, none⟩) (L + 1) cap2) (.slice Ka L Kc) (.slice na q nc) vs vc { opS S with now := S.now ++ [ByteArray.mk #[]] }) := XVa
                have HFVa : Hid (Fr O O1 w Va) := FW.out.trans FVa
                have d1 : Va.cell? ⟨D, 1, none⟩ = some (.slice Ka L Kc) := cell_in XVa.blk 1 _ rfl
                have X1 : Hid (RRep (Va.alloc (.cells #[.string (ByteArray.mk #[])] 9)) O1 D (.slice (some ⟨g2, 0, none⟩) (L + 1) cap2) (.slice Ka L Kc) (.slice na q nc) vs vc { opS S with now := S.now ++ [ByteArray.mk #[]] }) := XVa.below ((Below.refl _ _).alloc (Nat.le_refl _) _)
                have OC2 : Hid ((Va.alloc (.cells #[.string (ByteArray.mk #[])] 9)).ownsRow 0 9 1 (.slice Ka L Kc) L (strs9 S.kept)) := by
                  have := X1.out.kept; unfold OutS at this; rw [show ({ opS S with now := S.now ++ [ByteArray.mk #[]] } : St).kept.length = L from HLK.out] at this; exact this
                clear XVa FVa hVa hO1 HXa HFa X0 OC1 z0 z1 d0 d2 d6
                go_upto_region 20 with (first
                  | (at_builtin; refine wpList_append_lies _ rfl _ _ 93 rfl 0 9 j0 _ 1 16 Try.underlying93 INF.out.1 INF.out.2.1 INF.out.2.2.1 INF.out.2.2.2 rfl (by decide) _ _ _ rfl OC2.out ⟨Va.heap.size, 0, none⟩ 1 1 [.string (ByteArray.mk #[])] rfl rfl (one_str _ _ rfl _) (one_strc _) (by decide) c3.out c4.out (Nat.zero_le _) _ rfl ?_
                     intro g3 cap3 wb hown hgrow hat hlt2
                     have b2 := rkep_blk X1.out hgrow
                     have z0 : wb.cell? ⟨D, 1, none⟩ = some (.slice Ka L Kc) := cell_in b2 1 _ rfl
                     have z1 : wb.frozen? ⟨D, 1, none⟩ = false := unfrozen_in b2 1
                     have HXb : Hid _ := X1.out.growKept (L := S.kept ++ [ByteArray.mk #[]]) hgrow (by rw [List.length_append, ← strs9_app, HLK.out]; exact hown) rfl (hat.imp id (fun e => by rw [e]; exact Nat.le_refl _))
                     have HFb : Hid _ := fr_grow (n := L + 1) (c := cap3) (off := 1) X1.out.oD X1.out.oK ((Below.refl Va.heap.size Va).alloc (Nat.le_refl _) _) hgrow (hat.imp id (fun e => by rw [e]; simp)) (.slice (some ⟨g3, 0, none⟩) (L + 1) cap3)
                     clear b2 hown hgrow hat hlt2))
                obtain ⟨Vb, hVb⟩ : ∃ V, wb.setCell ⟨D, 1, none⟩ (.slice (some ⟨g3, 0, none⟩) (L + 1) cap3) = V := ⟨_, rfl⟩
                have XVb := HXb.out
                have FVb := HFb.out
                rw [hVb] at XVb FVb ⊢
                obtain ⟨O2, hO2⟩ : ∃ P : Nat → Prop, P = fun k => O1 k ∨ (Value.slice (some ⟨g3, 0, none⟩) (L + 1) cap3).ownBlock = some k := ⟨_, rfl⟩
                rw [← hO2] at XVb FVb
                have HXVb : Hid (RRep Vb O2 D (.slice (some ⟨g2, 0, none⟩) (L + 1) cap2) (.slice (some ⟨g3, 0, none⟩) (L + 1) cap3) (.slice na q nc) vs vc (newF (opS S))) := XVb
                have HFVb : Hid (Fr O O2 w Vb) := HFVa.out.trans FVb
                have TU : Hid (Calls Try.prog 127 #[.pointer (some ⟨D, 0, none⟩), .agg #[.string s, .string s, .int .i64 (L : Int)]] Vb fun e w' => ∃ O' vn' vc', e = .returned (.tuple #[]) ∧ RRep w' O' D (.slice (some ⟨g2, 0, none⟩) (L + 1) cap2) (.slice (some ⟨g3, 0, none⟩) (L + 1) cap3) vn' vs vc' (chgS (newF (opS S)) (s, s, some S.now.length)) ∧ Fr O2 O' Vb w') := by
                  rw [HL.out]; exact rturn_some O2 D _ _ _ vs vc (newF (opS S)) (m + 1) s s S.now.length Vb (by rw [← HL.out]; exact XVb) HK.out.op.newF (by omega)
                clear XVb FVb hVb hO2 HXb HFb X1 OC2 z0 z1 d1
                have il : (L : Int) < (L : Int) + 1 := by omega
                have i0 : (0 : Int) ≤ (L : Int) := by omega
                go_wp2_with (first
                  | (go_at_call 127; refine Calls.mono TU.out ?_; rintro e w3 ⟨O3, vn3, vc3, rfl, X3, F3⟩
                     have RT : w3.ownsRow 0 9 1 (.slice (some ⟨g2, 0, none⟩) (L + 1) cap2) (L + 1) (strs9 (S.now ++ [ByteArray.mk #[]])) := by
                       have := X3.now; unfold OutS at this
                       have e : (chgS (newF (opS S)) (s, s, some S.now.length)).now = S.now ++ [ByteArray.mk #[]] := rfl
                       rw [e, List.length_append, ← HL.out] at this; exact this
                     have d5 : w3.cell? ⟨g2, L, none⟩ = some (.string (ByteArray.mk #[])) := (RT.cellAt L (by omega)).trans (by
                       unfold strs9
                       rw [List.map_append, List.getElem?_append_right (by simp [HL.out])]
                       simp [HL.out])
                     have f5 : w3.frozen? ⟨g2, L, none⟩ = false := RT.frozenAt L
                     have d0 : w3.cell? ⟨D, 0, none⟩ = some (.slice (some ⟨g2, 0, none⟩) (L + 1) cap2) := cell_in X3.blk 0 _ rfl
                     have HX3 : Hid (RRep w3 O3 D (.slice (some ⟨g2, 0, none⟩) (L + 1) cap2) (.slice (some ⟨g3, 0, none⟩) (L + 1) cap3) vn3 vs vc3 (chgS (newF (opS S)) (s, s, some S.now.length))) := X3
                     have HF3 : Hid (Fr O O3 w w3) := HFVb.out.trans F3
                     clear RT X3 F3))
                go_ret
                have key2 : putN (chgS (newF (opS S)) (s, s, some S.now.length)) S.now.length t = { chgS (newF (opS S)) (s, s, some S.now.length) with now := (chgS (newF (opS S)) (s, s, some S.now.length)).now.set L t } := by rw [HL.out]; rfl
                refine ⟨O3, .slice (some ⟨g2, 0, none⟩) (L + 1) cap2, .slice (some ⟨g3, 0, none⟩) (L + 1) cap3, vn3, vc3, ret_int R.out.1.symm, ?_, HF3.out.trans (fr_at (HX3.out.oN g2 rfl) _ _)⟩
                rw [R.out.2, key2]
                exact HX3.out.setNow L t
end Go.Proofs.Ytnkgfoabadjboaa
