/-
  Names: both disks give the same list; it is overwritten, and kept, with one mark more behind. Conditions: the pair stands for a plain state; fewer than 2^41 entries and lists.
-/
import Derived.Test.YtnkgfoabadjboaaDkl
namespace Go.Proofs.Ytnkgfoabadjboaa
open Go.RowKit
set_option linter.unusedVariables false
set_option linter.unusedSimpArgs false
theorem nmL_len {S : St} {m : Nat} (k : S.Ok m) : (nmL S).length ≤ m := by
  unfold nmL
  split
  · exact Nat.zero_le _
  · rw [List.length_map]; exact k.ln
theorem one_valc (x : Value) (h : x.oneCell' = true) : ∀ u ∈ [x], u.oneCell' = true := by
  intro u hu
  rw [List.mem_singleton.1 hu]; exact h
set_option maxHeartbeats 8000000 in
set_option maxRecDepth 100000 in
theorem listed_any {W : World} {P B D : Nat} {OX OD OL : Nat → Prop} {fb : Nat → Nat} {vn vk vc vN vK un us uc vl vg : Value} {n m : Nat} {ls gs : List Value} {S : St} (h : PR W P B D OX OD OL fb vn vk vc vN vK un us uc vl vg n ls gs S S) (k : S.Ok m) (hm : m < 2199023255551) (hn : n < 2199023255551) :
    Calls Try.prog 99 #[.pointer (some ⟨P, 0, none⟩)] W fun e w' => e = .returned (.bool true) ∧ ∃ (OL' : Nat → Prop) (vl' vg' : Value) (ls' gs' : List Value), LRep w' OL' vl' vg' (n + 1) ls' gs' ∧ w'.heap[P]? = some (.cells #[.pointer (some ⟨B, 0, none⟩), .pointer (some ⟨D, 0, none⟩), vl', vg'] 45 (0, 0)) ∧ Fr (fun k => k = P ∨ OL k) (fun k => k = P ∨ OL' k) W w' ∧ (∀ k, OL' k → OL k ∨ W.heap.size ≤ k) := by
  have hm' : m < 2199023255552 := by omega
  have HH : Hid _ := h
  have HK : Hid (S.Ok m) := k
  have HR : Hid (RRep W OD D vN vK un us uc S) := h.r
  have PS : Hid (P < W.heap.size) := h.ps
  have c0 : W.cell? ⟨P, 0, none⟩ = some (.pointer (some ⟨B, 0, none⟩)) := cell_in h.blk 0 _ rfl
  have C1 : Hid (W.cell? ⟨P, 1, none⟩ = some (.pointer (some ⟨D, 0, none⟩))) := cell_in h.blk 1 _ rfl
  obtain ⟨al, ac, rfl, -⟩ := row_form h.l.rl
  obtain ⟨ag, gc, rfl, -⟩ := row_form h.l.rg
  have C2 : Hid (W.cell? ⟨P, 2, none⟩ = some (.slice al n ac)) := cell_in h.blk 2 _ rfl
  have HB0 : Hid (W.heap[P]? = some (.cells #[.pointer (some ⟨B, 0, none⟩), .pointer (some ⟨D, 0, none⟩), .slice al n ac, .slice ag n gc] 45 (0, 0))) := h.blk
  have HL0 : Hid (LRep W OL (.slice al n ac) (.slice ag n gc) n ls gs) := h.l
  have PL0 : Hid (¬ OL P) := h.pl
  obtain ⟨xs, hxs⟩ : ∃ xs, xs = nmL S := ⟨_, rfl⟩
  obtain ⟨ln, hln⟩ : ∃ l, l = xs.length := ⟨_, rfl⟩
  have lb : ln < 2199023255551 := by rw [hln, hxs]; have := nmL_len k; omega
  have HLN : Hid _ := hln
  have NM : Hid (Calls Try.prog 128 #[.pointer (some ⟨B, 0, none⟩)] W fun e w' => ∃ v', e = .returned (.tuple #[v', .int .i64 (nmE S)]) ∧ OutS w' W.heap.size v' xs ∧ Below W.heap.size W w') := by rw [hxs]; exact xnames_any OX B fb vn vk vc S m W h.x k hm'
  have RL : Hid (∀ w1, RRep w1 OD D vN vK un us uc S → Calls Try.prog 129 #[.pointer (some ⟨D, 0, none⟩)] w1 fun e w' => ∃ v', e = .returned (.tuple #[v', .int .i64 (nmE S)]) ∧ OutS w' w1.heap.size v' xs ∧ Below w1.heap.size w1 w') := fun w1 r => by rw [hxs]; exact rlist_any OD D vN vK un us uc S m w1 r k hm'
  clear h k hxs hln
  go_enter Try.func99, Try.ntmps99
  go_wp2_with (first
    | (go_at_call 128; refine Calls.mono NM.out ?_; rintro e w1 ⟨v1, rfl, o1, b1⟩
       have q1 : w1.cell? ⟨P, 1, none⟩ = some (.pointer (some ⟨D, 0, none⟩)) := (b1.cell (p := ⟨P, 1, none⟩) PS.out).trans C1.out
       have HB1 : Hid (Below W.heap.size W w1) := b1
       unfold OutS at o1
       rw [← HLN.out] at o1
       obtain ⟨la, lc, rfl, hla⟩ := row_form o1
       have HO1 : Hid (w1.ownsRow W.heap.size 9 1 (.slice la ln lc) ln (strs9 xs)) := o1
       have HLA : Hid _ := hla
       clear o1 b1 hla)
    | (go_at_call 129; refine Calls.mono (RL.out _ (HR.out.below HB1.out)) ?_; rintro e w2 ⟨v2, rfl, o2, b2⟩
       have HB2 : Hid (Below w1.heap.size w1 w2) := b2
       unfold OutS at o2
       rw [← HLN.out] at o2
       obtain ⟨ma, mc, rfl, hma⟩ := row_form o2
       have HO2 : Hid (w2.ownsRow w1.heap.size 9 1 (.slice ma ln mc) ln (strs9 xs)) := o2
       have HMA : Hid _ := hma
       clear o2 b2 hma)
    | (go_at_call 53; refine (dnum_any _ _).mono ?_; rintro e w' ⟨rfl, hw'⟩; subst w'))
  have HO12 : Hid (w2.ownsRow W.heap.size 9 1 (.slice la ln lc) ln (strs9 xs)) := owns_same HO1.out fun z hz => HB2.out.block z (HO1.out.lt z hz).2
  have HBW2 : Hid (Below W.heap.size W w2) := HB1.out.trans (HB2.out.mono HB1.out.size)
  clear c0 q1
  go_loopw [7] (fun iv wr => ∃ q : Nat, q ≤ ln ∧ iv = .int .i64 q ∧ Hid (Below w2.heap.size w2 wr)) (fun iv _ => ln - (intOf iv).toNat)
  case atStart => exact ⟨0, by omega, rfl, Below.refl _ _⟩
  case round =>
    obtain ⟨q, hq, rfl, BW⟩ := hrel
    by_cases hlt : q < ln
    · obtain ⟨g1, rfl, -⟩ := HLA.out (by omega)
      obtain ⟨g2, rfl, hg2⟩ := HMA.out (by omega)
      have hql : q < xs.length := by rw [← HLN.out]; exact hlt
      obtain ⟨x, hx⟩ : ∃ x, (strs9 xs)[q]? = some (.string x) := ⟨xs[q], by unfold strs9; rw [List.getElem?_map, List.getElem?_eq_getElem hql]; rfl⟩
      have d1 : wr.cell? ⟨g1, q, none⟩ = some (.string x) := (BW.out.cell (p := ⟨g1, q, none⟩) (HO12.out.lt g1 rfl).2).trans ((HO12.out.cellAt q (by omega)).trans hx)
      have d2 : wr.cell? ⟨g2, q, none⟩ = some (.string x) := (BW.out.cell (p := ⟨g2, q, none⟩) hg2).trans ((HO2.out.cellAt q (by omega)).trans hx)
      have ql : (q : Int) < (ln : Int) := by omega
      have q0 : (0 : Int) ≤ (q : Int) := by omega
      clear hx hql
      go_upto_region 8 with fail
      go_quiet (fail)
      go_wp2
      go_roundw
      case rel => exact ⟨q + 1, by omega, by go_num, below_drewN BW.out _⟩
      case measure => simp [intOf]; omega
    · have HBW3 : Hid (Below W.heap.size W wr) := HBW2.out.trans (BW.out.mono HBW2.out.size)
      have HO3 : Hid (wr.ownsRow W.heap.size 9 1 (.slice la ln lc) ln (strs9 xs)) := owns_same HO12.out fun z hz => BW.out.block z (HO12.out.lt z hz).2
      have q2 : wr.cell? ⟨P, 2, none⟩ = some (.slice al n ac) := (HBW3.out.cell (p := ⟨P, 2, none⟩) PS.out).trans C2.out
      obtain ⟨mk, hmk⟩ : ∃ mk, mk = markB n := ⟨_, rfl⟩
      have MK : Hid (∀ W, Calls Try.prog 106 #[.int .i64 (n : Int)] W fun e w' => e = .returned (.string mk) ∧ Below W.heap.size W w') := fun W => by rw [hmk]; exact mark_any n W (by omega)
      have HMK : Hid _ := hmk
      clear hmk
      go_wp2_with (first
        | (go_at_call 106; refine (MK.out _).mono ?_; rintro e w4 ⟨rfl, b4⟩
           have HBW4 : Hid (Below W.heap.size W w4) := HBW3.out.trans (b4.mono HBW3.out.size)
           have HO4 : Hid (w4.ownsRow W.heap.size 9 1 (.slice la ln lc) ln (strs9 xs)) := owns_same HO3.out fun z hz => b4.block z (HO3.out.lt z hz).2
           clear b4))
      clear q2
      go_loopw [9] (fun iv wz => ∃ q : Nat, q ≤ ln ∧ iv = .int .i64 q ∧ Hid (wz.ownsRow W.heap.size 9 1 (.slice la ln lc) ln (List.replicate q (.string mk) ++ (strs9 xs).drop q)) ∧ Hid (Below W.heap.size W wz)) (fun iv _ => ln - (intOf iv).toNat)
      case atStart => exact ⟨0, by omega, rfl, HO4.out, HBW4.out⟩
      case round =>
        clear BW
        obtain ⟨q, hq, rfl, OW, BW⟩ := hrel
        by_cases hlt : q < ln
        · obtain ⟨g1, rfl, -⟩ := HLA.out (by omega)
          have hql : q < (strs9 xs).length := by unfold strs9; rw [List.length_map, ← HLN.out]; exact hlt
          obtain ⟨x, hx⟩ : ∃ x, wr.cell? ⟨g1, q, none⟩ = some x := by
            rw [OW.out.cellAt q (by omega)]
            have : q < (List.replicate q (Value.string mk) ++ (strs9 xs).drop q).length := by rw [List.length_append, List.length_replicate, List.length_drop]; omega
            exact ⟨_, List.getElem?_eq_getElem this⟩
          have fz : wr.frozen? ⟨g1, q, none⟩ = false := OW.out.frozenAt q
          have ql : (q : Int) < (ln : Int) := by omega
          have q0 : (0 : Int) ≤ (q : Int) := by omega
          have OS : Hid ((wr.setCell ⟨g1, q, none⟩ (.string mk)).ownsRow W.heap.size 9 1 (.slice (some ⟨g1, 0, none⟩) ln lc) ln (List.replicate (q + 1) (.string mk) ++ (strs9 xs).drop (q + 1))) := by
            show World.ownsRow _ _ _ _ _ _ _
            rw [← repl_set (strs9 xs) (.string mk) q hql]
            exact (World.ownsRow.stored OW.out q (.string mk)).1
          have BS : Hid (Below W.heap.size W (wr.setCell ⟨g1, q, none⟩ (.string mk))) := BW.out.setCell (OW.out.lt g1 rfl).1 _
          clear hql
          go_wp2
          go_roundw
          case rel => exact ⟨q + 1, by omega, by go_num, OS.out, BS.out⟩
          case measure => simp [intOf]; omega
        · have hqe : q = ln := by omega
          subst hqe
          have OW1 : Hid (wr.ownsRow W.heap.size 9 1 (.slice la q lc) q (List.replicate q (.string mk))) := by
            have := OW.out
            rw [List.drop_of_length_le (by unfold strs9; rw [List.length_map, ← HLN.out]; exact Nat.le_refl _), List.append_nil] at this
            exact this
          obtain ⟨j0, hi, hz0, hz1, hz2⟩ := info_parts Try.infoS
          have INF : Hid _ := And.intro hi (And.intro hz0 (And.intro hz1 hz2))
          obtain ⟨j1, yi, yz0, yz1, yz2⟩ := info_parts Try.infoT
          have INT : Hid _ := And.intro yi (And.intro yz0 (And.intro yz1 yz2))
          have OA : Hid ((wr.alloc (.cells #[.string mk] 9)).ownsRow W.heap.size 9 1 (.slice la q lc) q (List.replicate q (.string mk))) := World.ownsRow.alloc OW1.out _
          have BA : Hid (Below W.heap.size W (wr.alloc (.cells #[.string mk] 9))) := BW.out.alloc BW.out.size _
          have c3 : Hid (q + 1 ≤ maxLen) := by show _ ≤ _; unfold maxLen; omega
          have c4 : Hid ((q + 1) * 16 ≤ 140737488355328) := by show _ ≤ _; omega
          have c6 : Hid (W.heap.size ≤ (wr.alloc (.cells #[.string mk] 9)).heap.size) := BA.out.size
          have c7 : Hid (n + 1 ≤ maxLen) := by show _ ≤ _; unfold maxLen; omega
          have c8 : Hid ((n + 1) * 24 ≤ 140737488355328) := by show _ ≤ _; omega
          have hq2 : q < 2199023255552 := by omega
          clear hi hz0 hz1 hz2 yi yz0 yz1 yz2 hlt hq
          go_upto_region 16 with (first
            | (at_builtin; refine wpList_append_keep _ rfl _ _ 93 rfl W.heap.size 9 j0 _ 1 16 Try.underlying93 INF.out.1 INF.out.2.1 INF.out.2.2.1 INF.out.2.2.2 rfl (by decide) _ _ _ rfl OA.out ⟨wr.heap.size, 0, none⟩ 1 1 [.string mk] rfl rfl (one_str _ _ rfl _) (one_strc _) (by decide) c3.out c4.out c6.out _ rfl ?_
               intro g6 cap6 w6 hown hgrow hat hlt2 hkeep
               have HG6 : Hid (w6.ownsRow W.heap.size 9 1 (.slice (some ⟨g6, 0, none⟩) (q + 1) cap6) (q + 1) (List.replicate (q + 1) (.string mk))) := by show World.ownsRow _ _ _ _ _ _ _; rw [← repl_snoc]; exact hown
               have HL6 : Hid (w6.ownsRow W.heap.size 9 1 (.slice la q lc) q (List.replicate q (.string mk))) := hkeep
               have HB6 : Hid (Below W.heap.size W w6) := BA.out.grown hgrow BA.out.size (fun b hb => (OA.out.lt b hb).1)
               have z2 : w6.cell? ⟨P, 2, none⟩ = some (.slice al n ac) := (HB6.out.cell (p := ⟨P, 2, none⟩) PS.out).trans C2.out
               clear hown hgrow hat hlt2 hkeep))
          have OB : Hid ((w6.alloc (.cells #[.slice la q lc] 93)).ownsRow 0 93 1 (.slice al n ac) n ls) := World.ownsRow.alloc (HL0.out.same HB6.out.size fun z hz => HB6.out.block z (HL0.out.lt z hz)).rl _
          go_upto_region 17 with (first
            | (at_builtin; refine wpList_append_lies _ rfl _ _ 43 rfl 0 93 j1 _ 1 24 Try.underlying43 INT.out.1 INT.out.2.1 INT.out.2.2.1 INT.out.2.2.2 rfl (by decide) _ _ _ rfl OB.out ⟨w6.heap.size, 0, none⟩ 1 1 [.slice la q lc] rfl rfl (one_val _ _ rfl _) (one_valc _ rfl) (by decide) c7.out c8.out (Nat.zero_le _) _ rfl ?_
               intro g7 cap7 w7 hown hgrow hat hlt2
               have H7 : Hid (w7.ownsRow 0 93 1 (.slice (some ⟨g7, 0, none⟩) (n + 1) cap7) (n + 1) (ls ++ [.slice la q lc])) := hown
               have GR7 : Hid ((w6.alloc (.cells #[.slice la q lc] 93)).grownBy w7 (Value.slice al n ac).ownBlock) := hgrow
               have AT7 : Hid ((Value.slice al n ac).ownBlock = some g7 ∨ g7 = (w6.alloc (.cells #[.slice la q lc] 93)).heap.size) := hat
               have p7 := (list7 HL0.out HB0.out PL0.out HB6.out hgrow).1
               have z3 : w7.cell? ⟨P, 2, none⟩ = some (.slice al n ac) := cell_in p7 2 _ rfl
               have z4 : w7.frozen? ⟨P, 2, none⟩ = false := unfrozen_in p7 2
               clear hown hgrow hat hlt2 p7))
          obtain ⟨V, hV⟩ : ∃ V, w7.setCell ⟨P, 2, none⟩ (.slice (some ⟨g7, 0, none⟩) (n + 1) cap7) = V := ⟨_, rfl⟩
          have V7 := list7' HL0.out HB0.out PL0.out HB6.out GR7.out (.slice (some ⟨g7, 0, none⟩) (n + 1) cap7)
          rw [hV] at V7 ⊢
          have HV : Hid _ := hV
          have z5 : V.cell? ⟨P, 3, none⟩ = some (.slice ag n gc) := cell_in V7.1 3 _ rfl
          have OC : Hid ((V.alloc (.cells #[.slice (some ⟨g6, 0, none⟩) (q + 1) cap6] 93)).ownsRow 0 93 1 (.slice ag n gc) n gs) := World.ownsRow.alloc V7.2 _
          have L8 : Hid (∀ w8, ((V.alloc (.cells #[.slice (some ⟨g6, 0, none⟩) (q + 1) cap6] 93))).grownBy w8 (Value.slice ag n gc).ownBlock → w8.heap[P]? = some (.cells #[.pointer (some ⟨B, 0, none⟩), .pointer (some ⟨D, 0, none⟩), .slice (some ⟨g7, 0, none⟩) (n + 1) cap7, .slice ag n gc] 45 (0, 0))) := fun w8 g => list8 HL0.out HB0.out PL0.out HB6.out GR7.out _ (by rw [hV]; exact g)
          clear hV V7 z2 z3 z4
          go_wp2_with (first
            | (at_builtin; refine wpList_append_lies _ rfl _ _ 43 rfl 0 93 j1 _ 1 24 Try.underlying43 INT.out.1 INT.out.2.1 INT.out.2.2.1 INT.out.2.2.2 rfl (by decide) _ _ _ rfl OC.out ⟨V.heap.size, 0, none⟩ 1 1 [.slice (some ⟨g6, 0, none⟩) (q + 1) cap6] rfl rfl (one_val _ _ rfl _) (one_valc _ rfl) (by decide) c7.out c8.out (Nat.zero_le _) _ rfl ?_
               intro g8 cap8 w8 hown hgrow hat hlt2
               have H8 : Hid (w8.ownsRow 0 93 1 (.slice (some ⟨g8, 0, none⟩) (n + 1) cap8) (n + 1) (gs ++ [.slice (some ⟨g6, 0, none⟩) (q + 1) cap6])) := hown
               have GR8 : Hid ((V.alloc (.cells #[.slice (some ⟨g6, 0, none⟩) (q + 1) cap6] 93)).grownBy w8 (Value.slice ag n gc).ownBlock) := hgrow
               have AT8 : Hid ((Value.slice ag n gc).ownBlock = some g8 ∨ g8 = (V.alloc (.cells #[.slice (some ⟨g6, 0, none⟩) (q + 1) cap6] 93)).heap.size) := hat
               have p8 := L8.out w8 hgrow
               have z6 : w8.cell? ⟨P, 3, none⟩ = some (.slice ag n gc) := cell_in p8 3 _ rfl
               have z7 : w8.frozen? ⟨P, 3, none⟩ = false := unfrozen_in p8 3
               clear hown hgrow hat hlt2 p8))
          go_ret
          refine ⟨rfl, ?_⟩
          have g8' := GR8.out
          have a8' := AT8.out
          rw [← HV.out] at g8' a8'
          exact listed_end HL0.out HB0.out PL0.out HB6.out hq2 HMK.out HL6.out HG6.out H7.out GR7.out AT7.out H8.out g8' a8'
end Go.Proofs.Ytnkgfoabadjboaa
