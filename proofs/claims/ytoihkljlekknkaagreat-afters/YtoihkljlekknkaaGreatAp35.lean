/-
  After, of the program. Conditions: patterns and numbers are such; the text is no longer than any that can be.
-/
import Derived.Test.YtoihkljlekknkaaGreatAp33
namespace Go.Proofs.YtoihkljlekknkaaGreat
open Go.RowKit
open Go.Joins (cell_of_block unfrozen_of_block)
set_option linter.unusedVariables false
set_option linter.unusedSimpArgs false
set_option maxHeartbeats 8000000 in
set_option maxRecDepth 100000 in
theorem after_any (c : Cf) (s : ByteArray) (steps : Int) (w : World) (c2 : c.ok2) (hs : s.size ≤ maxLen) :
 Calls Tryz.prog 5 #[.agg (pcs c), .string s, .int .i64 steps] w fun e w' => e = .returned (.tuple #[.string (AFT c s steps), .int .i64 (CHK c (s.size : Int))]) ∧ Below w.heap.size w w' := by
 obtain ⟨X, hX⟩ : ∃ X, X = pcs c := ⟨_, rfl⟩
 have CK : Hid (∀ V, Calls Tryz.prog 10 #[.agg X, .string s] V fun e w' => e = .returned (.int .i64 (CHK c (s.size : Int))) ∧ Below V.heap.size V w') := fun V => by rw [hX]; exact check_any c s V hs
 obtain ⟨W, hW, b0, bel, hws⟩ := one_block w X 31
 obtain ⟨Bc, hBc⟩ : ∃ B, B = w.heap.size := ⟨_, rfl⟩
 have CW : Hid (W.heap[Bc]? = some (.cells X 31 (0, 0))) := by rw [hBc]; exact b0
 have SW : Hid (W.heap.size = Bc + 1) := by show _ = _; omega
 have BE : Hid (Below w.heap.size w W) := bel
 have HW : Hid _ := hW
 have HB : Hid _ := hBc
 have HI2 : Hid ((Tryz.prog.info? 31).map (·.size) = some X.size) := by rw [hX]; exact pcs_infoL c
 have X10 : Hid (X[10]? = some (.int .i64 c.steps)) := by rw [hX]; rfl
 have HX : Hid _ := hX
 rw [← hX]
 clear hX hW b0 bel hws hBc hs
 cases hc : (CHK c (s.size : Int) == 0)
 · have ne : ¬ CHK c (s.size : Int) = 0 := by simpa using hc
   have AE : Hid (AFT c s steps = ByteArray.empty) := by show _ = _; unfold AFT; rw [if_neg ne]
   rw [AE.out]
   obtain ⟨ev, hev⟩ : ∃ x, x = CHK c (s.size : Int) := ⟨_, rfl⟩
   rw [← hev] at CK hc ne ⊢
   clear hev AE
   go_enter Tryz.func5, Tryz.ntmps5
   go_upto_region 1 with fail
   rw [HW.out]
   rw [← HB.out]
   go_wp2_with (first
    | (refine wpList_load_row rfl 31 _ rfl Bc rfl 31 X (0, 0) _ CW.out Tryz.underlying31 rfl HI2.out ?_)
    | (go_at_call 10; refine (CK.out _).mono ?_; rintro e w1 ⟨rfl, b1⟩
       have B1 : Hid (Below w.heap.size w w1) := BE.out.trans (b1.mono BE.out.size)
       clear b1))
   go_ret2
   exact ⟨rfl, B1.out⟩
 · have eq : CHK c (s.size : Int) = 0 := by simpa using hc
   obtain ⟨eL, em, wb, one, hsz, n1, n16, hb, nb4, nb1⟩ := sizes_of eq
   have alw := (CHK_ok eq).1
   have stb := (ALW_bs alw).2
   have AE : Hid (AFT c s steps = TEXT (kOf c steps : Int) (RUN c (mOf c) s (nsOf c s) (nbOf c) (kOf c steps)).P (RUN c (mOf c) s (nsOf c s) (nbOf c) (kOf c steps)).V (RUN c (mOf c) s (nsOf c s) (nbOf c) (kOf c steps)).M) := by show _ = _; unfold AFT; rw [if_pos eq]
   rw [AE.out, eq]
   simp only [eq] at CK
   obtain ⟨m, hm⟩ : ∃ x, x = mOf c := ⟨_, rfl⟩
   obtain ⟨ns, hns⟩ : ∃ x, x = nsOf c s := ⟨_, rfl⟩
   obtain ⟨nb, hnb⟩ : ∃ x, x = nbOf c := ⟨_, rfl⟩
   rw [← hm] at eL em one hsz ⊢
   rw [← hns] at hsz n1 n16 ⊢
   rw [← hnb] at hb nb4 nb1 ⊢
   have kk1 : ∀ i : Nat, i < kOf c steps → (i : Int) < min steps c.steps := fun i hi => by unfold kOf at hi; omega
   have kk2 : ∀ i : Nat, ¬ i < kOf c steps → ¬ (i : Int) < min steps c.steps := fun i hi => by unfold kOf at hi; omega
   have kk3 : kOf c steps ≤ 200 := by unfold kOf; omega
   obtain ⟨kk, hkk⟩ : ∃ x, x = kOf c steps := ⟨_, rfl⟩
   rw [← hkk] at kk1 kk2 kk3 ⊢
   have KK1 : Hid _ := kk1
   have KK2 : Hid _ := kk2
   have NT : Hid (∀ V, Calls Tryz.prog 11 #[.agg X, .string s] V fun e w' => ∃ (t : Nt) (q : Tr), t.c = c ∧ t.m = m ∧ t.ok ∧ NetR t w' ∧ TrS t q w' ∧ q.ns = ns ∧ q.s = s ∧ (∀ b, q.O b → ¬ t.O b) ∧ e = .returned (.pointer (some ⟨q.T, 0, none⟩)) ∧ (∀ b, t.O b ∨ q.O b → V.heap.size ≤ b) ∧ Below V.heap.size V w') := fun V => by rw [HX.out]; exact newTraining_any c m ns s V eL em alw wb one hsz n1 n16
   have C2 : Hid _ := c2
   have HBT : Hid _ := hb
   clear AE hm hns hnb hkk eL em wb one hsz alw kk1 kk2 eq hc c2 hb
   go_enter Tryz.func5, Tryz.ntmps5
   go_upto_region 1 with fail
   rw [HW.out]
   rw [← HB.out]
   go_upto_region 4 with (first
    | (refine wpList_load_row rfl 31 _ rfl Bc rfl 31 X (0, 0) _ CW.out Tryz.underlying31 rfl HI2.out ?_)
    | (go_at_call 10; refine (CK.out _).mono ?_; rintro e w1 ⟨rfl, b1⟩
       have B1 : Hid (Below w.heap.size w w1) := BE.out.trans (b1.mono BE.out.size)
       have C1 : Hid (w1.heap[Bc]? = some (.cells X 31 (0, 0))) := (b1.block _ (lt_of_heap CW.out)).trans CW.out
       clear b1))
   go_upto_region 5 with (first
    | (refine wpList_load_row rfl 31 _ rfl Bc rfl 31 X (0, 0) _ C1.out Tryz.underlying31 rfl HI2.out ?_)
    | (go_at_call 11; refine (NT.out _).mono ?_; rintro e w2 ⟨t, r, tc, tm, tok, tn, tr, rns, rs, ap, rfl, lo2, b2⟩
       have TC : Hid _ := tc
       have TM : Hid _ := tm
       have TOK : Hid _ := tok
       have TN : Hid _ := tn
       have TR : Hid _ := tr
       have RNS : Hid _ := rns
       have RS : Hid _ := rs
       have AP : Hid _ := ap
       have LO2 : Hid _ := lo2
       have B2 : Hid (Below w.heap.size w w2) := B1.out.trans (b2.mono B1.out.size)
       have C2' : Hid (w2.heap[Bc]? = some (.cells X 31 (0, 0))) := (b2.block _ (lt_of_heap C1.out)).trans C1.out
       have BL : Hid (Bc < w1.heap.size) := lt_of_heap C1.out
       have BG : Hid (Calls Tryz.prog 12 #[.pointer (some ⟨r.T, 0, none⟩)] w2 fun e w' => ∃ s : St, s.ok ∧ (∀ k, s.O k → w2.heap.size ≤ k) ∧ e = .returned (.pointer (some ⟨s.Ss, 0, none⟩)) ∧ StS s (sn t.c (t.m + 1)) 0 (PARS t.c.seed (sn t.c (t.m + 1))) (List.replicate (sn t.c (t.m + 1)) 0) (List.replicate (sn t.c (t.m + 1)) 0) w' ∧ Below w2.heap.size w2 w') := begin_any t r w2 tok (by rw [tc]; exact C2.out) tn tr
       clear tc tm tok tn tr rns rs ap lo2 b2))
   obtain ⟨T, hT⟩ : ∃ x, x = r.T := ⟨_, rfl⟩
   have HT : Hid _ := hT
   rw [← hT] at BG ⊢
   clear hT
   go_upto_region 6 with (first
    | (go_at_call 12; refine BG.out.mono ?_; rintro e w3 ⟨q, qok, ql, rfl, qs, b3⟩
       have QOK : Hid _ := qok
       have QL : Hid _ := ql
       have QS : Hid _ := qs
       have B3 : Hid _ := b3
       clear qok ql qs b3))
   have RLO : Hid (∀ b, r.O b → b < w2.heap.size) := fun b hb => by
    rcases hb with rfl | rfl | ⟨j, hj, rfl⟩
    · obtain ⟨C, z, _⟩ := TR.out.tb; exact lt_of_heap z
    · obtain ⟨C, z, _⟩ := TR.out.sb; exact lt_of_heap z
    · exact TR.out.wl j hj
   have ASN : Hid (∀ b, q.O b → ¬ t.O b) := fun b h1 h2 => by have := QL.out b h1; have := NetS.low TN.out b h2; omega
   have AR : Hid (∀ b, q.O b → ¬ r.O b) := fun b h1 h2 => by have := QL.out b h1; have := RLO.out b h2; omega
   have N3 : Hid (NetR t w3) := NetS.below TN.out B3.out
   have R3 : Hid (TrS t r w3) := TR.out.below B3.out
   have S3 : Hid (StS q (sn c (m + 1)) 0 (RUN c m s ns nb 0).P (RUN c m s ns nb 0).V (RUN c m s ns nb 0).M w3) := by have h := QS.out; rw [TC.out, TM.out] at h; exact h
   have B4 : Hid (Below w.heap.size w w3) := B2.out.trans (B3.out.mono B2.out.size)
   have C4 : Hid (w3.heap[Bc]? = some (.cells X 31 (0, 0))) := (B3.out.block _ (lt_of_heap C2'.out)).trans C2'.out
   have NBc : Hid (¬ (t.O Bc ∨ q.O Bc)) := by
    rintro (h | h)
    · have h1 := LO2.out Bc (Or.inl h); have h2 := BL.out; omega
    · have h1 := QL.out Bc h; have h2 := lt_of_heap C2'.out; omega
   have WLO : Hid (∀ b, t.O b ∨ q.O b → w.heap.size ≤ b) := by
    rintro b (h | h)
    · exact Nat.le_trans B1.out.size (LO2.out b (Or.inl h))
    · exact Nat.le_trans B2.out.size (QL.out b h)
   obtain ⟨Ss, hSs⟩ : ∃ x, x = q.Ss := ⟨_, rfl⟩
   have HSs : Hid _ := hSs
   have PK : Hid (∀ V (i : Nat), TrS t r V → i ≤ 1000 → Calls Tryz.prog 14 #[.pointer (some ⟨T, 0, none⟩), .int .i64 (i : Int)] V fun e w' => ∃ G, e = .returned (.slice (some ⟨G, 0, none⟩) nb nb) ∧ V.heap.size ≤ G ∧ G < w'.heap.size ∧ (∀ b, b < nb → w'.cell? ⟨G, b, none⟩ = some (.int .i64 (PKN c ns i nb b : Int))) ∧ Below V.heap.size V w') := fun V i hV hi => by
    have h := picks_any t r i nb V (by rw [TC.out]; exact C2.out) hV (by rw [TC.out]; exact HBT.out) nb4 (by rw [RNS.out]; exact n1) (by rw [RNS.out]; exact n16) (by omega)
    rw [TC.out, RNS.out] at h; rw [HT.out]; exact h
   have IT : Hid (∀ V (i gk : Nat), NetR t V → TrS t r V → StS q (sn c (m + 1)) i (RUN c m s ns nb i).P (RUN c m s ns nb i).V (RUN c m s ns nb i).M V → gk < V.heap.size → ¬ t.O gk → (∀ b, b < nb → V.cell? ⟨gk, b, none⟩ = some (.int .i64 (PKN c ns i nb b : Int))) → i ≤ 1000 → Calls Tryz.prog 13 #[.pointer (some ⟨T, 0, none⟩), .pointer (some ⟨Ss, 0, none⟩), .slice (some ⟨gk, 0, none⟩) nb nb] V fun e w' => e = .returned (.tuple #[]) ∧ NetR t w' ∧ TrS t r w' ∧ StS q (sn c (m + 1)) (i + 1) (RUN c m s ns nb (i + 1)).P (RUN c m s ns nb (i + 1)).V (RUN c m s ns nb (i + 1)).M w' ∧ But (fun k => t.O k ∨ q.O k) V w') := fun V i gk h1 h2 h3 h4 h5 h6 h7 => by
    rw [HT.out, hSs]
    exact iter_step TC.out TM.out RS.out RNS.out TOK.out C2.out QOK.out h1 h2 h3 AP.out ASN.out AR.out gk h4 h5 h6 n1 n16 HBT.out nb4 (by omega) nb
   have TX : Hid (∀ V (i : Nat), StS q (sn c (m + 1)) i (RUN c m s ns nb i).P (RUN c m s ns nb i).V (RUN c m s ns nb i).M V → i ≤ 1000 → Calls Tryz.prog 15 #[.pointer (some ⟨Ss, 0, none⟩)] V fun e w' => e = .returned (.string (TEXT (i : Int) (RUN c m s ns nb i).P (RUN c m s ns nb i).V (RUN c m s ns nb i).M)) ∧ Below V.heap.size V w') := fun V i h hi => by
    have p := RUN_pats c m s ns nb i
    rw [hSs]; exact text_any q _ i _ _ _ V h p.1 p.2.1 p.2.2 (by have := sn_le TOK.out.wb (m + 1) (by have := TOK.out.m3; rw [TM.out] at this; omega); rw [TC.out] at this; omega) (by omega)
   have SC : Hid (∀ V (i : Nat), StS q (sn c (m + 1)) i (RUN c m s ns nb i).P (RUN c m s ns nb i).V (RUN c m s ns nb i).M V → V.cell? ⟨Ss, 0, none⟩ = some (.int .i64 (i : Int))) := fun V i h => by
    obtain ⟨C, z1, z2, _⟩ := h.sb; rw [hSs]; exact (cell_of_block z1 _).trans z2
   have NOG : Hid (∀ V G, NetR t V → V.heap.size ≤ G → ¬ t.O G) := fun V G h hG hO => by have := NetS.low h G hO; omega
   rw [← hSs]
   clear hSs TN TR QS B2 B3 B1 C1 C2' CW BE SW BG NT CK RLO QL LO2 BL
   go_loopw [30] (fun _ wr => ∃ i : Nat, i ≤ kk ∧ Hid (NetR t wr) ∧ Hid (TrS t r wr) ∧ Hid (StS q (sn c (m + 1)) i (RUN c m s ns nb i).P (RUN c m s ns nb i).V (RUN c m s ns nb i).M wr) ∧ Hid (Below w.heap.size w wr) ∧ Hid (wr.heap[Bc]? = some (.cells X 31 (0, 0)))) (fun _ wr => kk - (intOf ((wr.cell? ⟨Ss, 0, none⟩).getD undef)).toNat)
   case atStart => exact ⟨0, by omega, N3.out, R3.out, S3.out, B4.out, C4.out⟩
   case round =>
    clear N3 R3 S3 B4 C4
    obtain ⟨i, hi, HN, HR, HS, BW, HC⟩ := hrel
    have s0 : wr.cell? ⟨Ss, 0, none⟩ = some (.int .i64 (i : Int)) := SC.out _ i HS.out
    have s10 : wr.cell? ⟨Bc, 10, none⟩ = some (.int .i64 c.steps) := (cell_of_block HC.out 10).trans X10.out
    have hmn : (if c.steps < steps then c.steps else steps) = min steps c.steps := by split <;> omega
    by_cases hlt : i < kk
    · have hd : decide ((i : Int) < if c.steps < steps then c.steps else steps) = true := by rw [hmn]; exact decide_eq_true (KK1.out i hlt)
      have PK1 : Hid (∀ V, TrS t r V → Calls Tryz.prog 14 #[.pointer (some ⟨T, 0, none⟩), .int .i64 (i : Int)] V fun e w' => ∃ G, e = .returned (.slice (some ⟨G, 0, none⟩) nb nb) ∧ V.heap.size ≤ G ∧ G < w'.heap.size ∧ (∀ b, b < nb → w'.cell? ⟨G, b, none⟩ = some (.int .i64 (PKN c ns i nb b : Int))) ∧ Below V.heap.size V w') := fun V h => PK.out V i h (by omega)
      have IT1 : Hid _ := fun V gk h1 h2 h3 h4 h5 h6 => IT.out V i gk h1 h2 h3 h4 h5 h6 (by omega)
      have TRD : Hid (TrS t r wr.drew) := HR.out.below ((Below.refl _ _).drew)
      clear hmn
      go_upto_region 6 with fail
      go_region_held3 (fun w' => w'.cell? ⟨Ss, 0, none⟩ = some (.int .i64 (i : Int)) ∧ w'.cell? ⟨Bc, 10, none⟩ = some (.int .i64 c.steps)) (exact ⟨s0, s10⟩) (fail)
      rename_i hHeld
      clear hHeld
      clear hd
      go_wp2_with (first
       | (go_at_call 14; refine (PK1.out _ TRD.out).mono ?_; rintro e w6 ⟨G, rfl, lg, lh, gc, b6⟩
          have B6 : Hid (Below wr.heap.size wr w6) := ((Below.refl _ _).drew).trans b6
          have GC : Hid _ := gc
          have GH : Hid _ := lh
          have GO : Hid (¬ t.O G) := NOG.out wr G HN.out lg
          clear lg lh gc b6)
       | (go_at_call 13; refine (IT1.out _ G (NetS.below HN.out B6.out) (HR.out.below B6.out) (HS.out.but (Q := fun _ => False) (But.below B6.out) (fun _ _ e => e)) GH.out GO.out GC.out).mono ?_; rintro e w7 ⟨rfl, h1, h2, h3, h4⟩
          have N7 : Hid _ := h1
          have R7 : Hid _ := h2
          have S7 : Hid _ := h3
          have U7 : Hid _ := h4
          clear h1 h2 h3 h4))
      have BWL : Hid (Below w.heap.size w w7) := by
       have bz := BW.out.trans (B6.out.mono BW.out.size)
       exact ⟨U7.out.os.trans bz.os, U7.out.tape.trans bz.tape, U7.out.output.trans bz.output, Nat.le_trans bz.size U7.out.size, fun k hk => (U7.out.block k (Nat.lt_of_lt_of_le hk bz.size) (fun h => by have := WLO.out k h; omega)).trans (bz.block k hk)⟩
      have C7 : Hid (w7.heap[Bc]? = some (.cells X 31 (0, 0))) := (U7.out.block Bc (Nat.lt_of_lt_of_le (lt_of_heap HC.out) B6.out.size) NBc.out).trans ((B6.out.block Bc (lt_of_heap HC.out)).trans HC.out)
      have c7 := SC.out _ (i + 1) S7.out
      have HC7 : Hid _ := c7
      have HS0 : Hid _ := s0
      clear c7
      go_roundw
      case rel => exact ⟨i + 1, by omega, N7.out, R7.out, S7.out, BWL.out, C7.out⟩
      case measure => rw [HC7.out, HS0.out]; simp [intOf]; omega
    · have hd : decide ((i : Int) < if c.steps < steps then c.steps else steps) = false := by rw [hmn]; exact decide_eq_false (by have := KK2.out i hlt; omega)
      have hie : kk = i := by omega
      subst hie
      have TX1 : Hid (∀ V, StS q (sn c (m + 1)) kk (RUN c m s ns nb kk).P (RUN c m s ns nb kk).V (RUN c m s ns nb kk).M V → Calls Tryz.prog 15 #[.pointer (some ⟨Ss, 0, none⟩)] V fun e w' => e = .returned (.string (TEXT (kk : Int) (RUN c m s ns nb kk).P (RUN c m s ns nb kk).V (RUN c m s ns nb kk).M)) ∧ Below V.heap.size V w') := fun V h => TX.out V kk h (by omega)
      have SD : Hid (StS q (sn c (m + 1)) kk (RUN c m s ns nb kk).P (RUN c m s ns nb kk).V (RUN c m s ns nb kk).M wr.drew) := HS.out.but (Q := fun _ => False) (But.below ((Below.refl _ _).drew)) (fun _ _ e => e)
      obtain ⟨tt, htt⟩ : ∃ x, x = TEXT (kk : Int) (RUN c m s ns nb kk).P (RUN c m s ns nb kk).V (RUN c m s ns nb kk).M := ⟨_, rfl⟩
      have HTT : Hid _ := htt
      simp only [← htt] at TX1
      clear hmn htt
      go_upto_region 6 with fail
      go_region_held3 (fun w' => w'.cell? ⟨Ss, 0, none⟩ = some (.int .i64 (kk : Int)) ∧ w'.cell? ⟨Bc, 10, none⟩ = some (.int .i64 c.steps)) (exact ⟨s0, s10⟩) (fail)
      rename_i hHeld
      clear hHeld
      clear hd
      go_wp2_with (first
       | (go_at_call 15; refine (TX1.out _ SD.out).mono ?_; rintro e w6 ⟨rfl, b6⟩
          have B6 : Hid (Below wr.heap.size wr w6) := ((Below.refl _ _).drew).trans b6
          clear b6))
      all_goals
       go_ret2
       exact ⟨by rw [HTT.out]; rfl, BW.out.trans (B6.out.mono BW.out.size)⟩
end Go.Proofs.YtoihkljlekknkaaGreat
