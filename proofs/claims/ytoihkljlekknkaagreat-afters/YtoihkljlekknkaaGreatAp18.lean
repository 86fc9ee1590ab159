/-
  The slopes of a step's samples, on the average, of the program. Conditions: as for the net in memory; the samples' numbers are some that are there.
-/
import Derived.Test.YtoihkljlekknkaaGreatAp14
import Derived.Test.YtoihkljlekknkaaGreatAr5
import Derived.Deep.RegionHeld3
import Derived.Test.YtoihkljlekknkaaGreatAp7
import Derived.Test.YtoihkljlekknkaaGreatCk1
namespace Go.Proofs.YtoihkljlekknkaaGreat
open Go.RowKit
open Go.Joins (cell_of_block unfrozen_of_block)
set_option linter.unusedVariables false
set_option linter.unusedSimpArgs false
/-- element by element -/
def ADDL (l g : List Int) : List Int := (List.range l.length).map fun k => ADD (l.getD k 0) (g.getD k 0)
def XS (c : Cf) (m : Nat) (s : ByteArray) (k : Nat) : List Int := WDS s (k * (wn c 0 + wn c (m + 1))) (wn c 0)
def YS (c : Cf) (m : Nat) (s : ByteArray) (k : Nat) : List Int := WDS s (k * (wn c 0 + wn c (m + 1)) + wn c 0) (wn c (m + 1))
/-- the slopes of the first samples, added up -/
def GSUM (c : Cf) (m : Nat) (s : ByteArray) (P : List Int) (pk : Nat → Nat) : Nat → List Int
 | 0 => List.replicate (sn c (m + 1)) 0
 | b + 1 => ADDL (GSUM c m s P pk b) (SLOPES c P (XS c m s (pk b)) (YS c m s (pk b)) m)
theorem ADDL_len (l g : List Int) : (ADDL l g).length = l.length := by simp [ADDL]
theorem ADDL_pats {l g : List Int} (hl : pats l) (hg : pats g) : pats (ADDL l g) := fun v hv => by
 unfold ADDL at hv
 obtain ⟨k, _, rfl⟩ := List.mem_map.1 hv
 have a := pats_at hl k; have b := pats_at hg k
 exact ADD_bd _ _ a.1 a.2 b.1 b.2
theorem GSUM_len (c : Cf) (m : Nat) (s : ByteArray) (P : List Int) (pk : Nat → Nat) (b : Nat) : (GSUM c m s P pk b).length = sn c (m + 1) := by
 induction b with
 | zero => exact List.length_replicate
 | succ b ih => exact (ADDL_len _ _).trans ih
theorem GSUM_pats (c : Cf) (m : Nat) (s : ByteArray) {P : List Int} (h : pats P) (pk : Nat → Nat) (b : Nat) : pats (GSUM c m s P pk b) := by
 induction b with
 | zero => exact pats_rep _
 | succ b ih => exact ADDL_pats ih (SLOPES_pats c h _ _ m)
/-- where a training's parts lie -/
structure Tr where
 (T Sb cS ns : Nat) (tT tS : TypeId) (gw : Nat → Nat) (s : ByteArray)
def Tr.O (r : Tr) (b : Nat) : Prop := b = r.T ∨ b = r.Sb ∨ ∃ k, k < r.ns ∧ b = r.gw k
/-- a training in memory, its net aside -/
structure TrS (t : Nt) (r : Tr) (w : World) : Prop where
 tb : ∃ C, w.heap[r.T]? = some (.cells C r.tT (0, 0)) ∧ (∀ i, i < 20 → C[i]? = (pcs t.c)[i]?) ∧ C[20]? = some (.slice (some ⟨r.Sb, 0, none⟩) r.ns r.cS) ∧ C[21]? = some (.pointer (some ⟨t.N, 0, none⟩)) ∧ C.size = 22
 sb : ∃ C, w.heap[r.Sb]? = some (.cells C r.tS (0, 0)) ∧ ∀ k, k < r.ns → C[k * 2]? = some (.slice (some ⟨r.gw k, 0, none⟩) (wn t.c 0) (wn t.c 0 + wn t.c (t.m + 1))) ∧ C[k * 2 + 1]? = some (.slice (some ⟨r.gw k, wn t.c 0, none⟩) (wn t.c (t.m + 1)) (wn t.c (t.m + 1)))
 wl : ∀ k, k < r.ns → r.gw k < w.heap.size
 wx : ∀ k, k < r.ns → ∀ i, i < wn t.c 0 → w.cell? ⟨r.gw k, 0 + i, none⟩ = some (.int .u32 ((XS t.c t.m r.s k).getD i 0))
 wy : ∀ k, k < r.ns → ∀ i, i < wn t.c (t.m + 1) → w.cell? ⟨r.gw k, wn t.c 0 + i, none⟩ = some (.int .u32 ((YS t.c t.m r.s k).getD i 0))
theorem TrS.but {t : Nt} {r : Tr} {w w' : World} {P : Nat → Prop} (h : TrS t r w) (b : But P w w') (hP : ∀ k, r.O k → ¬ P k) : TrS t r w' := by
 refine ⟨?_, ?_, fun k hk => Nat.lt_of_lt_of_le (h.wl k hk) b.size, fun k hk i hi => ?_, fun k hk i hi => ?_⟩
 · obtain ⟨C, h1, h2⟩ := h.tb; exact ⟨C, (b.block _ (lt_of_heap h1) (hP _ (Or.inl rfl))).trans h1, h2⟩
 · obtain ⟨C, h1, h2⟩ := h.sb; exact ⟨C, (b.block _ (lt_of_heap h1) (hP _ (Or.inr (Or.inl rfl)))).trans h1, h2⟩
 · exact (b.cell (h.wl k hk) (hP _ (Or.inr (Or.inr ⟨k, hk, rfl⟩))) _).trans (h.wx k hk i hi)
 · exact (b.cell (h.wl k hk) (hP _ (Or.inr (Or.inr ⟨k, hk, rfl⟩))) _).trans (h.wy k hk i hi)
theorem TrS.below {t : Nt} {r : Tr} {w w' : World} (h : TrS t r w) (b : Below w.heap.size w w') : TrS t r w' := h.but (P := fun _ => False) (But.below b) (fun _ _ e => e)
theorem But.new {O : Nat → Prop} {w V V' : World} {G : Nat} (h : But O w V) (k : But (fun j => j = G) V V') (hG : w.heap.size ≤ G) : But O w V' :=
 ⟨k.os.trans h.os, k.tape.trans h.tape, k.output.trans h.output, Nat.le_trans h.size k.size, fun j hj hO => (k.block j (Nat.lt_of_lt_of_le hj h.size) (by omega)).trans (h.block j hj hO)⟩
/-- a net in memory -/
def NetR (t : Nt) (w : World) : Prop := NetS t [] [] ⟨0, 0, 0⟩ 0 0 w
/-- one sample's slopes, out of a training in memory -/
theorem one_slopes {t : Nt} {r : Tr} {w : World} {P : List Int} {gp k : Nat} (ok : t.ok) (hn : NetR t w) (hr : TrS t r w) (ap : ∀ b, r.O b → ¬ t.O b) (hp : w.heap[gp]? = some (.cells (u32s P) 29 (0, 0))) (pO : ¬ t.O gp) (pp : pats P) (plen : P.length = sn t.c (t.m + 1)) (hk : k < r.ns) (cp : Nat) :
 Calls Tryz.prog 55 #[.pointer (some ⟨t.N, 0, none⟩), .slice (some ⟨gp, 0, none⟩) P.length cp, .slice (some ⟨r.gw k, 0, none⟩) (wn t.c 0) (wn t.c 0 + wn t.c (t.m + 1)), .slice (some ⟨r.gw k, wn t.c 0, none⟩) (wn t.c (t.m + 1)) (wn t.c (t.m + 1))] w fun e w' =>
  ∃ G, e = .returned (.slice (some ⟨G, 0, none⟩) (sn t.c (t.m + 1)) (sn t.c (t.m + 1))) ∧ w.heap.size ≤ G ∧ w'.heap[G]? = some (.cells (u32s (SLOPES t.c P (XS t.c t.m r.s k) (YS t.c t.m r.s k) t.m)) 29 (0, 0)) ∧ NetR t w' ∧ But t.O w w' := by
 have gO : ¬ t.O (r.gw k) := ap _ (Or.inr (Or.inr ⟨k, hk, rfl⟩))
 have w4 := wn_le ok.wb 0 (by omega)
 refine (pslopes_any t P (XS t.c t.m r.s k) (YS t.c t.m r.s k) ⟨r.gw k, 0, wn t.c 0 + wn t.c (t.m + 1)⟩ gp cp (r.gw k) (wn t.c 0) (wn t.c (t.m + 1)) w ok (NetS.anew hn _ _ _)
  ⟨lt_of_heap hp, pO, fun i hi => by rw [cell_of_block hp, u32s_at _ i hi], pp, plen, hr.wl k hk, gO, hr.wx k hk, WDS_pats _ _ _, Nat.zero_le _⟩
  ⟨hr.wl k hk, gO, hr.wy k hk, WDS_pats _ _ _, by omega⟩).mono ?_
 rintro e w' ⟨G, rfl, h1, h2, h3, h4⟩
 exact ⟨G, rfl, h1, h2, h3.anew _ _ _, h4⟩
set_option maxHeartbeats 8000000 in
set_option maxRecDepth 100000 in
theorem tslopes_any (t : Nt) (r : Tr) (P : List Int) (gp cp gk ck nb : Nat) (pk : Nat → Nat) (w : World) (ok : t.ok) (hn : NetR t w) (hr : TrS t r w) (ap : ∀ b, r.O b → ¬ t.O b) (hp : w.heap[gp]? = some (.cells (u32s P) 29 (0, 0))) (pO : ¬ t.O gp) (pp : pats P) (plen : P.length = sn t.c (t.m + 1))
 (kl : gk < w.heap.size) (kO : ¬ t.O gk) (kc : ∀ b, b < nb → w.cell? ⟨gk, b, none⟩ = some (.int .i64 (pk b : Int))) (kn : ∀ b, b < nb → pk b < r.ns) (hb : t.c.batch = (nb : Int)) (nb1 : nb ≤ 1000) (ns1 : r.ns ≤ 1000) :
 Calls Tryz.prog 27 #[.pointer (some ⟨r.T, 0, none⟩), .slice (some ⟨gp, 0, none⟩) P.length cp, .slice (some ⟨gk, 0, none⟩) nb ck] w fun e w' =>
  ∃ G, e = .returned (.slice (some ⟨G, 0, none⟩) P.length P.length) ∧ w.heap.size ≤ G ∧ w'.heap[G]? = some (.cells (u32s (SCL (GSUM t.c t.m r.s P pk nb) (DIV 1065353216 (FROMI (nb : Int))))) 29 (0, 0)) ∧ NetR t w' ∧ But t.O w w' := by
 obtain ⟨j0, ji, jz0, jz1, jz2⟩ := info_three Tryz.infoU
 have s60 : P.length ≤ 60 := by rw [plen]; exact sn_le ok.wb (t.m + 1) (by have := ok.m3; omega)
 have ON : Hid (∀ V, But t.O w V → NetR t V → ∀ k, k < r.ns → Calls Tryz.prog 55 #[.pointer (some ⟨t.N, 0, none⟩), .slice (some ⟨gp, 0, none⟩) P.length cp, .slice (some ⟨r.gw k, 0, none⟩) (wn t.c 0) (wn t.c 0 + wn t.c (t.m + 1)), .slice (some ⟨r.gw k, wn t.c 0, none⟩) (wn t.c (t.m + 1)) (wn t.c (t.m + 1))] V fun e w' =>
  ∃ G, e = .returned (.slice (some ⟨G, 0, none⟩) P.length P.length) ∧ V.heap.size ≤ G ∧ w'.heap[G]? = some (.cells (u32s (SLOPES t.c P (XS t.c t.m r.s k) (YS t.c t.m r.s k) t.m)) 29 (0, 0)) ∧ NetR t w' ∧ But t.O V w') := fun V hV hN k hk => by
  have := one_slopes ok hN (hr.but hV (fun b hb => ap b hb)) ap ((hV.block _ (lt_of_heap hp) pO).trans hp) pO pp plen hk cp
  rw [← plen] at this; exact this
 have TC : Hid (∀ V, But t.O w V → V.cell? ⟨r.T, 21, none⟩ = some (.pointer (some ⟨t.N, 0, none⟩)) ∧ V.cell? ⟨r.T, 20, none⟩ = some (.slice (some ⟨r.Sb, 0, none⟩) r.ns r.cS) ∧ V.cell? ⟨r.T, 9, none⟩ = some (.int .i64 (nb : Int)) ∧ (∀ k, k < r.ns → V.cell? ⟨r.Sb, k * 2, none⟩ = some (.slice (some ⟨r.gw k, 0, none⟩) (wn t.c 0) (wn t.c 0 + wn t.c (t.m + 1))) ∧ V.cell? ⟨r.Sb, k * 2 + 1, none⟩ = some (.slice (some ⟨r.gw k, wn t.c 0, none⟩) (wn t.c (t.m + 1)) (wn t.c (t.m + 1))))) := fun V hV => by
  have h := hr.but hV (fun b hb => ap b hb)
  obtain ⟨C, h1, h2, h3, h4, _⟩ := h.tb
  obtain ⟨D, d1, d2⟩ := h.sb
  refine ⟨(cell_of_block h1 _).trans h4, (cell_of_block h1 _).trans h3, (cell_of_block h1 _).trans ((h2 9 (by omega)).trans ?_), fun k hk => ⟨(cell_of_block d1 _).trans (d2 k hk).1, (cell_of_block d1 _).trans (d2 k hk).2⟩⟩
  rw [← hb]; rfl
 have KC : Hid (∀ V, But t.O w V → ∀ b, b < nb → V.cell? ⟨gk, b, none⟩ = some (.int .i64 (pk b : Int))) := fun V hV b hb => (hV.cell kl kO b).trans (kc b hb)
 have KN : Hid _ := kn
 have GL : Hid (∀ b, (GSUM t.c t.m r.s P pk b).length = P.length) := fun b => by rw [plen]; exact GSUM_len _ _ _ _ _ _
 have GP : Hid (∀ b, pats (GSUM t.c t.m r.s P pk b)) := fun b => GSUM_pats _ _ _ pp _ _
 have SP : Hid (∀ k, pats (SLOPES t.c P (XS t.c t.m r.s k) (YS t.c t.m r.s k) t.m)) := fun k => SLOPES_pats _ pp _ _ _
 have SL : Hid (∀ k, (SLOPES t.c P (XS t.c t.m r.s k) (YS t.c t.m r.s k) t.m).length = P.length) := fun k => by rw [plen]; exact SLOPES_len _ _ _ _ _
 have GZ : Hid (GSUM t.c t.m r.s P pk 0 = List.replicate P.length 0) := by show _ = _; rw [plen]; rfl
 have GS : Hid (∀ b, GSUM t.c t.m r.s P pk (b + 1) = ADDL (GSUM t.c t.m r.s P pk b) (SLOPES t.c P (XS t.c t.m r.s (pk b)) (YS t.c t.m r.s (pk b)) t.m)) := fun b => rfl
 have NL : Hid (∀ V, NetR t V → ∀ b, t.O b → b < V.heap.size) := fun V hV => NetS.low hV
 have HN : Hid _ := hn
 obtain ⟨n, hnn⟩ : ∃ n, n = P.length := ⟨_, rfl⟩
 obtain ⟨T, hT⟩ : ∃ n, n = r.T := ⟨_, rfl⟩
 obtain ⟨ns, hns⟩ : ∃ n, n = r.ns := ⟨_, rfl⟩
 obtain ⟨N, hNN⟩ : ∃ n, n = t.N := ⟨_, rfl⟩
 obtain ⟨Sb, hSb⟩ : ∃ n, n = r.Sb := ⟨_, rfl⟩
 obtain ⟨cS, hcS⟩ : ∃ n, n = r.cS := ⟨_, rfl⟩
 obtain ⟨gw, hgw⟩ : ∃ n, n = r.gw := ⟨_, rfl⟩
 obtain ⟨n0, hn0⟩ : ∃ n, n = wn t.c 0 := ⟨_, rfl⟩
 obtain ⟨nl, hnl⟩ : ∃ n, n = wn t.c (t.m + 1) := ⟨_, rfl⟩
 obtain ⟨GF, hGF⟩ : ∃ f, f = GSUM t.c t.m r.s P pk := ⟨_, rfl⟩
 obtain ⟨SF, hSF⟩ : ∃ f : Nat → List Int, f = fun k => SLOPES t.c P (XS t.c t.m r.s k) (YS t.c t.m r.s k) t.m := ⟨_, rfl⟩
 have SF' : ∀ k, SLOPES t.c P (XS t.c t.m r.s k) (YS t.c t.m r.s k) t.m = SF k := fun k => by rw [hSF]
 simp only [← hns, ← hnn, ← hNN, ← hgw, ← hn0, ← hnl, SF'] at ON
 simp only [← hT, ← hNN, ← hSb, ← hns, ← hcS, ← hgw, ← hn0, ← hnl] at TC
 simp only [← hns] at KN
 simp only [← hGF, ← hnn] at GL GZ
 simp only [← hGF] at GP
 simp only [← hGF, SF'] at GS
 simp only [SF'] at SP
 simp only [SF', ← hnn] at SL
 rw [← hns] at ns1
 rw [← hnn] at s60
 rw [← hGF, ← hT, ← hnn]
 obtain ⟨G, hG⟩ : ∃ G, G = w.heap.size := ⟨_, rfl⟩
 have HG : Hid _ := hG
 have GO : Hid (¬ t.O G) := fun h => by have := NL.out w HN.out _ h; omega
 clear ok hn hr ap hp pO pp plen kl kO kc kn hb hnn hT hns hNN hSb hcS hgw hn0 hnl hGF hSF SF' hG
 go_enter Tryz.func27, Tryz.ntmps27
 go_wp2_with (first
  | (at_make; refine wpList_make_full _ rfl _ _ 43 rfl w.heap.size 29 j0 _ 1 Tryz.under43 ji jz0 jz1 _ _ _ _ n rfl rfl rfl rfl (by rw [jz2]; omega) (by unfold maxLen; omega) (Nat.le_refl _) ?_
     intro w1 hown hgr
     rw [Nat.mul_one] at hown
     have B1 : Hid (Below w.heap.size w w1) := (Below.refl _ _).grown hgr (Nat.le_refl _) (by simp)
     have H1 : Hid (w1.heap[w.heap.size]? = some (.cells (u32s (GF 0)) 29 (0, 0))) := by show _ = _; rw [GZ.out]; exact made_u32 hown
     have N1 : Hid (NetR t w1) := NetS.below HN.out B1.out
     rw [← HG.out] at H1 ⊢
     clear hown hgr))
 clear ji jz0 jz1 jz2
 go_loopw [17] (fun bv wr => ∃ b : Nat, b ≤ nb ∧ bv = .int .i64 b ∧ Hid (wr.heap[G]? = some (.cells (u32s (GF b)) 29 (0, 0))) ∧ Hid (NetR t wr) ∧ Hid (But t.O w wr)) (fun bv _ => nb - (intOf bv).toNat)
 case atStart => exact ⟨0, by omega, rfl, H1.out, N1.out, But.below B1.out⟩
 case round =>
  clear H1 N1 B1
  obtain ⟨b, hb, rfl, HL, HN1, HU⟩ := hrel
  by_cases hlt : b < nb
  · have kb : wr.cell? ⟨gk, b, none⟩ = some (.int .i64 (pk b : Int)) := KC.out _ HU.out b hlt
    have kn := KN.out b hlt
    have XN : Hid (Calls Tryz.prog 55 #[.pointer (some ⟨N, 0, none⟩), .slice (some ⟨gp, 0, none⟩) n cp, .slice (some ⟨gw (pk b), 0, none⟩) n0 (n0 + nl), .slice (some ⟨gw (pk b), n0, none⟩) nl nl] wr.drew fun e w' => ∃ G, e = .returned (.slice (some ⟨G, 0, none⟩) n n) ∧ wr.drew.heap.size ≤ G ∧ w'.heap[G]? = some (.cells (u32s (SF (pk b))) 29 (0, 0)) ∧ NetR t w' ∧ But t.O wr.drew w') := ON.out _ (HU.out.trans (But.below ((Below.refl _ _).drew))) (NetS.below HN1.out ((Below.refl _ _).drew)) _ kn
    have GS1 : Hid (GF (b + 1) = ADDL (GF b) (SF (pk b))) := GS.out b
    have SP1 : Hid (pats (SF (pk b))) := SP.out _
    have SL1 : Hid ((SF (pk b)).length = n) := SL.out _
    have TQ : Hid (∀ V, But t.O w V → V.cell? ⟨T, 21, none⟩ = some (.pointer (some ⟨N, 0, none⟩)) ∧ V.cell? ⟨T, 20, none⟩ = some (.slice (some ⟨Sb, 0, none⟩) ns cS) ∧ V.cell? ⟨Sb, pk b * 2, none⟩ = some (.slice (some ⟨gw (pk b), 0, none⟩) n0 (n0 + nl)) ∧ V.cell? ⟨Sb, pk b * 2 + 1, none⟩ = some (.slice (some ⟨gw (pk b), n0, none⟩) nl nl)) := fun V hV => by
     obtain ⟨c21, c20, _, hs⟩ := TC.out _ hV
     exact ⟨c21, c20, hs _ kn⟩
    obtain ⟨q, hq⟩ : ∃ q, q = pk b := ⟨_, rfl⟩
    rw [← hq] at kb kn XN GS1 SP1 SL1 TQ
    obtain ⟨SQ, hSQ⟩ : ∃ q', q' = SF q := ⟨_, rfl⟩
    rw [← hSQ] at XN GS1 SP1 SL1
    obtain ⟨gq, hgq⟩ : ∃ q', q' = gw q := ⟨_, rfl⟩
    rw [← hgq] at XN TQ
    have S0 : wr.cell? ⟨T, 21, none⟩ = some (.pointer (some ⟨N, 0, none⟩)) ∧ wr.cell? ⟨T, 20, none⟩ = some (.slice (some ⟨Sb, 0, none⟩) ns cS) ∧ wr.cell? ⟨Sb, q * 2, none⟩ = some (.slice (some ⟨gq, 0, none⟩) n0 (n0 + nl)) ∧ wr.cell? ⟨Sb, q * 2 + 1, none⟩ = some (.slice (some ⟨gq, n0, none⟩) nl nl) := TQ.out _ HU.out
    have bl : (b : Int) < (nb : Int) := by omega
    have b0 : (0 : Int) ≤ (b : Int) := by omega
    have ql : (q : Int) < (ns : Int) := by omega
    have q0 : (0 : Int) ≤ (q : Int) := by omega
    have HUD : Hid (But t.O w wr.drew) := HU.out.trans (But.below ((Below.refl _ _).drew))
    have HLD' : Hid (wr.drew.heap[G]? = some (.cells (u32s (GF b)) 29 (0, 0))) := HL.out
    clear hq hSQ hgq
    go_upto_region 5 with fail
    go_region_held3 (fun w' => w'.cell? ⟨T, 21, none⟩ = some (.pointer (some ⟨N, 0, none⟩)) ∧ w'.cell? ⟨T, 20, none⟩ = some (.slice (some ⟨Sb, 0, none⟩) ns cS) ∧ w'.cell? ⟨Sb, q * 2, none⟩ = some (.slice (some ⟨gq, 0, none⟩) n0 (n0 + nl)) ∧ w'.cell? ⟨Sb, q * 2 + 1, none⟩ = some (.slice (some ⟨gq, n0, none⟩) nl nl)) (first | exact S0 | exact TQ.out _ U5.out) (first
     | (go_at_call 55; refine XN.out.mono ?_; rintro e w5 ⟨G2, rfl, h1, h2, h3, h4⟩
        have L5 : Hid (w5.heap[G]? = some (.cells (u32s (GF b)) 29 (0, 0))) := (h4.block _ (lt_of_heap HLD'.out) GO.out).trans HLD'.out
        have N5 : Hid _ := h3
        have U5 : Hid (But t.O w w5) := HUD.out.trans h4
        have S5 : Hid _ := h2
        have NE : Hid (G2 ≠ G) := by have := lt_of_heap HLD'.out; show ¬ _; omega
        clear h1 h2 h3 h4))
    all_goals
     clear kb S0 XN HL HN1 HU
     go_wp2
     go_loopw [44] (fun iv wz => ∃ i : Nat, i ≤ n ∧ iv = .int .i64 i ∧ ∃ l : List Int, Hid (l.length = n) ∧ Hid (∀ k, k < i → l.getD k 0 = ADD ((GF b).getD k 0) (SQ.getD k 0)) ∧ Hid (∀ k, i ≤ k → l.getD k 0 = (GF b).getD k 0) ∧ Hid (wz.heap[G]? = some (.cells (u32s l) 29 (0, 0))) ∧ Hid (But (fun j => j = G) w5 wz)) (fun iv _ => n - (intOf iv).toNat)
     case atStart => exact ⟨0, by omega, rfl, GF b, GL.out b, fun k hk => absurd hk (by omega), fun _ _ => rfl, L5.out, But.refl _ _⟩
     case round =>
      obtain ⟨i, hi, rfl, l, LL, LI, LJ, LH, LU⟩ := hrel
      by_cases hil : i < n
      · have e1 : wr.cell? ⟨G2, i, none⟩ = some (.int .u32 (SQ.getD i 0)) := (LU.out.cell (lt_of_heap S5.out) NE.out i).trans ((cell_of_block S5.out _).trans (u32s_at SQ i (by rw [SL1.out]; exact hil)))
        have ai : wr.cell? ⟨G, i, none⟩ = some (.int .u32 ((GF b).getD i 0)) := by rw [cell_of_block LH.out, u32s_at l i (by rw [LL.out]; exact hil), LJ.out i (Nat.le_refl _)]
        have fi : wr.frozen? ⟨G, i, none⟩ = false := unfrozen_of_block LH.out _
        have gb := pats_at (GP.out b) i
        have sb := pats_at SP1.out i
        obtain ⟨gv, hgv⟩ : ∃ v, v = (GF b).getD i 0 := ⟨_, rfl⟩
        obtain ⟨sv, hsv⟩ : ∃ v, v = SQ.getD i 0 := ⟨_, rfl⟩
        have GV : Hid _ := hgv
        have SV : Hid _ := hsv
        rw [← hgv] at ai gb
        rw [← hsv] at e1 sb
        have AD : Hid (∀ V, Calls Tryz.prog 56 #[.int .u32 gv, .int .u32 sv] V fun e w' => e = .returned (.int .u32 (ADD gv sv)) ∧ w' = V) := fun V => add_any gv sv V gb.1 gb.2 sb.1 sb.2
        have il : (i : Int) < (n : Int) := by omega
        have i0 : (0 : Int) ≤ (i : Int) := by omega
        clear hgv hsv
        go_wp2_with (first | (go_at_call 56; refine (AD.out _).mono ?_; rintro e w6 ⟨rfl, hw'⟩; subst w6))
        go_roundw
        case rel =>
         refine ⟨i + 1, by omega, by go_num, l.set i (ADD gv sv), ?_, fun k hk => ?_, fun k hk => ?_, ?_, LU.out.trans (But.set _ G i _ rfl)⟩
         · show _ = _; rw [List.length_set]; exact LL.out
         · rw [getD_set]
           by_cases e : i = k
           · rw [if_pos ⟨e, by rw [LL.out]; exact hil⟩, GV.out, SV.out, e]
           · rw [if_neg (fun h => e h.1)]; exact LI.out k (by omega)
         · rw [getD_set, if_neg (fun h => by omega)]; exact LJ.out k (by omega)
         · show _ = _; rw [heap_set _ G i _ _ 29 _ LH.out, u32s_set]
        case measure => simp [intOf]; omega
      · have hie : n = i := by omega
        have R : Hid (wr.heap[G]? = some (.cells (u32s (GF (b + 1))) 29 (0, 0))) := by
         show _ = _
         rw [LH.out, GS1.out]
         unfold ADDL
         rw [GL.out b, list_of l n _ LL.out fun k hk => LI.out k (by omega)]
        have GW : Hid (w.heap.size ≤ G) := by show _ ≤ _; rw [HG.out]; exact Nat.le_refl _
        have N6 : Hid (NetR t wr) := NetS.but N5.out LU.out (fun k hO e => GO.out (e ▸ hO))
        clear hie
        go_wp2
        go_roundw
        case rel => exact ⟨b + 1, by omega, by go_num, R.out, N6.out, But.new U5.out LU.out GW.out⟩
        case measure => simp [intOf]; omega
  · have hbe : nb = b := by omega
    have c9 := (TC.out _ HU.out).2.2.1
    have HLn : Hid (wr.heap[G]? = some (.cells (u32s (GF nb)) 29 (0, 0))) := by show _ = _; rw [hbe]; exact HL.out
    have FI : Hid (∀ V, Calls Tryz.prog 59 #[.int .i64 (nb : Int)] V fun e w' => e = .returned (.int .u32 (FROMI (nb : Int))) ∧ w' = V) := fun V => fromInt_any _ V (by omega) (by omega)
    have fb := FROMI_bd (nb : Int)
    obtain ⟨fv, hfv⟩ : ∃ v, v = FROMI (nb : Int) := ⟨_, rfl⟩
    rw [← hfv] at FI fb
    have DV : Hid (∀ V, Calls Tryz.prog 58 #[.int .u32 1065353216, .int .u32 fv] V fun e w' => e = .returned (.int .u32 (DIV 1065353216 fv)) ∧ ∃ n, w' = V.drewN n) := fun V => div_any _ _ V (by omega) (by omega) fb.1 fb.2
    have db := DIV_bd 1065353216 fv
    have SC : Hid (∀ V, V.heap[G]? = some (.cells (u32s (GF nb)) 29 (0, 0)) → Calls Tryz.prog 57 #[.slice (some ⟨G, 0, none⟩) n n, .int .u32 (DIV 1065353216 fv)] V fun e w' => e = .returned (.tuple #[]) ∧ w'.heap[G]? = some (.cells (u32s (SCL (GF nb) (DIV 1065353216 fv))) 29 (0, 0)) ∧ But (fun k => k = G) V w') := fun V hV => by
     have := scale_any G n (GF nb) (DIV 1065353216 fv) V hV (GP.out nb) db (by rw [GL.out]; omega)
     rw [GL.out] at this; exact this
    obtain ⟨dv, hdv⟩ : ∃ v, v = DIV 1065353216 fv := ⟨_, rfl⟩
    rw [← hdv] at DV SC
    have EQ : Hid (dv = DIV 1065353216 (FROMI (nb : Int))) := by show _ = _; rw [hdv, hfv]
    have GW : Hid (w.heap.size ≤ G) := by show _ ≤ _; rw [HG.out]; exact Nat.le_refl _
    clear hbe hfv hdv fb db
    go_wp2_with (first
     | (go_at_call 59; refine (FI.out _).mono ?_; rintro e w6 ⟨rfl, hw'⟩; subst w6)
     | (go_at_call 58; refine (DV.out _).mono ?_; rintro e w7 ⟨rfl, n7, hw7⟩
        have L7 : Hid (w7.heap[G]? = some (.cells (u32s (GF nb)) 29 (0, 0))) := by rw [hw7]; exact HLn.out
        have N7 : Hid (NetR t w7) := by rw [hw7]; exact NetS.below HN1.out (Go.Joins.below_draws _ _ _)
        have U7 : Hid (But t.O w w7) := by rw [hw7]; exact HU.out.trans (But.below (Go.Joins.below_draws _ _ _))
        clear hw7)
     | (go_at_call 57; refine (SC.out _ L7.out).mono ?_; rintro e w8 ⟨rfl, h8, b8⟩
        have L8 : Hid _ := h8
        have N8 : Hid (NetR t w8) := NetS.but N7.out b8 (fun k hO e => GO.out (e ▸ hO))
        have U8 : Hid (But t.O w w8) := But.new U7.out b8 GW.out
        clear h8 b8))
    go_ret
    exact ⟨G, rfl, GW.out, by rw [← EQ.out]; exact L8.out, N8.out, U8.out⟩
end Go.Proofs.YtoihkljlekknkaaGreat
/-
  The rule Momentum, of the program. Conditions: the patterns are 0 to 2^32 - 1; the blocks are apart.
-/
namespace Go.Proofs.YtoihkljlekknkaaGreat
open Go.RowKit
open Go.Joins (cell_of_block unfrozen_of_block)
set_option linter.unusedVariables false
set_option linter.unusedSimpArgs false
/-- the moments behind a step by the rule Momentum -/
def MOV1 (beta : Int) (V g : List Int) (k : Nat) : Int := ADD (MUL beta (V.getD k 0)) (g.getD k 0)
def MOP1 (beta rate : Int) (P V g : List Int) (k : Nat) : Int := SUB (P.getD k 0) (MUL rate (MOV1 beta V g k))
def MOV (beta : Int) (V g : List Int) : List Int := (List.range g.length).map (MOV1 beta V g)
def MOP (beta rate : Int) (P V g : List Int) : List Int := (List.range g.length).map (MOP1 beta rate P V g)
theorem MOV1_bd (beta : Int) {V g : List Int} (hg : pats g) (k : Nat) : 0 ≤ MOV1 beta V g k ∧ MOV1 beta V g k < 4294967296 := by
 have a := MUL_bd' beta (V.getD k 0); have b := pats_at hg k
 exact ADD_bd _ _ a.1 a.2 b.1 b.2
theorem MOP1_bd (beta rate : Int) {P : List Int} (hP : pats P) (V g : List Int) (k : Nat) : 0 ≤ MOP1 beta rate P V g k ∧ MOP1 beta rate P V g k < 4294967296 := by
 have a := MUL_bd' rate (MOV1 beta V g k); have b := pats_at hP k
 exact SUB_bd _ _ b.1 b.2
/-- the state's struct, and its three rows -/
structure St where
 (Ss gP gV gW : Nat) (tS : TypeId)
structure St.ok (s : St) : Prop where
 SP : s.Ss ≠ s.gP
 SV : s.Ss ≠ s.gV
 SW : s.Ss ≠ s.gW
 PV : s.gP ≠ s.gV
 PW : s.gP ≠ s.gW
 VW : s.gV ≠ s.gW
structure StS (s : St) (n st : Nat) (P V M : List Int) (w : World) : Prop where
 sb : ∃ C, w.heap[s.Ss]? = some (.cells C s.tS (0, 0)) ∧ C[0]? = some (.int .i64 (st : Int)) ∧ C[1]? = some (.slice (some ⟨s.gP, 0, none⟩) n n) ∧ C[2]? = some (.slice (some ⟨s.gV, 0, none⟩) n n) ∧ C[3]? = some (.slice (some ⟨s.gW, 0, none⟩) n n)
 p : w.heap[s.gP]? = some (.cells (u32s P) 29 (0, 0))
 v : w.heap[s.gV]? = some (.cells (u32s V) 29 (0, 0))
 m : w.heap[s.gW]? = some (.cells (u32s M) 29 (0, 0))
 pl : P.length = n
 vl : V.length = n
 ml : M.length = n
set_option maxHeartbeats 8000000 in
set_option maxRecDepth 100000 in
theorem momentum_any (T gl cl n st : Nat) (s : St) (beta rate : Int) (P V M g : List Int) (w : World) (ok : s.ok) (hs : StS s n st P V M w) (tl : T < w.heap.size) (hT : w.cell? ⟨T, 16, none⟩ = some (.int .u32 beta)) (hg : w.heap[gl]? = some (.cells (u32s g) 29 (0, 0))) (gn : g.length = n)
 (tP : T ≠ s.gP) (tV : T ≠ s.gV) (gP : gl ≠ s.gP) (gV : gl ≠ s.gV) (pP : pats P) (pV : pats V) (pg : pats g) (hb : 0 ≤ beta ∧ beta < 4294967296) (hr : 0 ≤ rate ∧ rate < 4294967296) (n4 : n ≤ 1000) :
 Calls Tryz.prog 31 #[.pointer (some ⟨T, 0, none⟩), .pointer (some ⟨s.Ss, 0, none⟩), .slice (some ⟨gl, 0, none⟩) n cl, .int .u32 rate] w fun e w' => e = .returned (.tuple #[]) ∧ w'.heap[s.gP]? = some (.cells (u32s (MOP beta rate P V g)) 29 (0, 0)) ∧ w'.heap[s.gV]? = some (.cells (u32s (MOV beta V g)) 29 (0, 0)) ∧ But (fun k => k = s.gP ∨ k = s.gV) w w' := by
 obtain ⟨C, h0, d0, d1, d2, d3⟩ := hs.sb
 have SC : Hid (∀ {X}, But (fun k => k = s.gP ∨ k = s.gV) w X → X.cell? ⟨T, 16, none⟩ = some (.int .u32 beta) ∧ X.cell? ⟨s.Ss, 1, none⟩ = some (.slice (some ⟨s.gP, 0, none⟩) n n) ∧ X.cell? ⟨s.Ss, 2, none⟩ = some (.slice (some ⟨s.gV, 0, none⟩) n n) ∧ ∀ i, i < n → X.cell? ⟨gl, i, none⟩ = some (.int .u32 (g.getD i 0))) := fun {X} h => by
  have q : ¬ (s.Ss = s.gP ∨ s.Ss = s.gV) := by rintro (e | e); exact ok.SP e; exact ok.SV e
  refine ⟨(h.cell tl (by rintro (e | e); exact tP e; exact tV e) _).trans hT, (h.cell (lt_of_heap h0) q _).trans ((cell_of_block h0 _).trans d1), (h.cell (lt_of_heap h0) q _).trans ((cell_of_block h0 _).trans d2), fun i hi => (h.cell (lt_of_heap hg) (by rintro (e | e); exact gP e; exact gV e) i).trans ((cell_of_block hg i).trans (u32s_at g i (by omega)))⟩
 have HP0 : Hid _ := hs.p
 have HV0 : Hid _ := hs.v
 have LP0 : Hid _ := hs.pl
 have LV0 : Hid _ := hs.vl
 have PVn : Hid _ := ok.PV
 have HPP : Hid _ := pP
 have HPV : Hid _ := pV
 have HPG : Hid _ := pg
 obtain ⟨Ss, hSs⟩ : ∃ x, x = s.Ss := ⟨_, rfl⟩
 obtain ⟨GP, hGP⟩ : ∃ x, x = s.gP := ⟨_, rfl⟩
 obtain ⟨GV, hGV⟩ : ∃ x, x = s.gV := ⟨_, rfl⟩
 rw [← hSs, ← hGP, ← hGV] at SC
 rw [← hGP] at HP0 PVn
 rw [← hGV] at HV0 PVn
 rw [← hSs, ← hGP, ← hGV]
 obtain ⟨FP, hFP⟩ : ∃ f, f = MOP1 beta rate P V g := ⟨_, rfl⟩
 obtain ⟨FV, hFV⟩ : ∃ f, f = MOV1 beta V g := ⟨_, rfl⟩
 have EP : Hid (MOP beta rate P V g = (List.range n).map FP) := by show _ = _; rw [hFP, ← gn]; rfl
 have EV : Hid (MOV beta V g = (List.range n).map FV) := by show _ = _; rw [hFV, ← gn]; rfl
 have FPe : Hid (∀ k, FP k = SUB (P.getD k 0) (MUL rate (FV k))) := fun k => by rw [hFP, hFV]; rfl
 have FVe : Hid (∀ k, FV k = ADD (MUL beta (V.getD k 0)) (g.getD k 0)) := fun k => by rw [hFV]; rfl
 have FVb : Hid (∀ k, 0 ≤ FV k ∧ FV k < 4294967296) := fun k => by rw [hFV]; exact MOV1_bd beta pg k
 rw [EP.out, EV.out]
 clear EP EV hFP hFV hs ok h0 d0 d1 d2 d3 hT hg pP pV pg tl tP tV gP gV hSs hGP hGV gn
 go_enter Tryz.func31, Tryz.ntmps31
 go_wp2
 go_loopw [13] (fun iv wr => ∃ i : Nat, i ≤ n ∧ iv = .int .i64 i ∧ ∃ lp lv : List Int, Hid (lp.length = n) ∧ Hid (lv.length = n) ∧ Hid (∀ k, k < i → lp.getD k 0 = FP k ∧ lv.getD k 0 = FV k) ∧ Hid (∀ k, i ≤ k → lp.getD k 0 = P.getD k 0 ∧ lv.getD k 0 = V.getD k 0) ∧ Hid (wr.heap[GP]? = some (.cells (u32s lp) 29 (0, 0))) ∧ Hid (wr.heap[GV]? = some (.cells (u32s lv) 29 (0, 0))) ∧ Hid (But (fun k => k = GP ∨ k = GV) w wr)) (fun iv _ => n - (intOf iv).toNat)
 case atStart => exact ⟨0, by omega, rfl, P, V, LP0.out, LV0.out, fun k hk => absurd hk (by omega), fun _ _ => ⟨rfl, rfl⟩, HP0.out, HV0.out, But.refl _ _⟩
 case round =>
  clear HP0 HV0 LP0 LV0
  obtain ⟨i, hi, rfl, lp, lv, LP, LV, LI, LJ, HP, HV, UW⟩ := hrel
  by_cases hlt : i < n
  · obtain ⟨t16, s1, s2, gi⟩ := SC.out UW.out
    have gi1 := gi i hlt
    have jp := (LJ.out i (Nat.le_refl _)).1
    have jv := (LJ.out i (Nat.le_refl _)).2
    have pi : wr.cell? ⟨GP, i, none⟩ = some (.int .u32 (P.getD i 0)) := by rw [cell_of_block HP.out, u32s_at lp i (by rw [LP.out]; exact hlt), jp]
    have vi : wr.cell? ⟨GV, i, none⟩ = some (.int .u32 (V.getD i 0)) := by rw [cell_of_block HV.out, u32s_at lv i (by rw [LV.out]; exact hlt), jv]
    have fv : wr.frozen? ⟨GV, i, none⟩ = false := unfrozen_of_block HV.out _
    have pb := pats_at HPP.out i
    have vb := pats_at HPV.out i
    have gb := pats_at HPG.out i
    have fb := FVb.out i
    have e1 : Hid _ := FVe.out i
    have e2 : Hid _ := FPe.out i
    obtain ⟨pv, hpv⟩ : ∃ v, v = P.getD i 0 := ⟨_, rfl⟩
    obtain ⟨vv, hvv⟩ : ∃ v, v = V.getD i 0 := ⟨_, rfl⟩
    obtain ⟨gv, hgv⟩ : ∃ v, v = g.getD i 0 := ⟨_, rfl⟩
    rw [← hpv] at pi pb e2
    rw [← hvv] at vi vb e1
    rw [← hgv] at gi1 gb e1
    obtain ⟨f1, hf1⟩ : ∃ v, v = FV i := ⟨_, rfl⟩
    rw [← hf1] at fb e1 e2
    have F1 : Hid _ := hf1
    have m1 := MUL_bd' beta vv
    have X1 : Hid (∀ U, Calls Tryz.prog 61 #[.int .u32 beta, .int .u32 vv] U fun e w' => e = .returned (.int .u32 (MUL beta vv)) ∧ w' = U) := fun U => mul_any beta vv U hb.1 hb.2 vb.1 vb.2
    have X2 : Hid (∀ U, Calls Tryz.prog 56 #[.int .u32 (MUL beta vv), .int .u32 gv] U fun e w' => e = .returned (.int .u32 f1) ∧ w' = U) := fun U => by rw [e1.out]; exact add_any _ gv U m1.1 m1.2 gb.1 gb.2
    obtain ⟨mv, hmv⟩ : ∃ v, v = MUL beta vv := ⟨_, rfl⟩
    rw [← hmv] at X1 X2
    have m2 := MUL_bd' rate f1
    have X3 : Hid (∀ U, Calls Tryz.prog 61 #[.int .u32 rate, .int .u32 f1] U fun e w' => e = .returned (.int .u32 (MUL rate f1)) ∧ w' = U) := fun U => mul_any rate f1 U hr.1 hr.2 fb.1 fb.2
    have X4 : Hid (∀ U, Calls Tryz.prog 64 #[.int .u32 pv, .int .u32 (MUL rate f1)] U fun e w' => e = .returned (.int .u32 (FP i)) ∧ w' = U) := fun U => by rw [e2.out]; exact sub_any pv _ U pb.1 pb.2 m2.1 m2.2
    obtain ⟨rv, hrv⟩ : ∃ v, v = MUL rate f1 := ⟨_, rfl⟩
    rw [← hrv] at X3 X4
    obtain ⟨f2, hf2⟩ : ∃ v, v = FP i := ⟨_, rfl⟩
    have F2 : Hid _ := hf2
    rw [← hf2] at X4
    obtain ⟨W4, hW4⟩ : ∃ W4, W4 = (wr.setCell ⟨GV, i, none⟩ (.int .u32 f1)).drew := ⟨_, rfl⟩
    have HW4 : Hid _ := hW4
    have V4 : Hid (W4.heap[GV]? = some (.cells (u32s (lv.set i f1)) 29 (0, 0))) := by show _ = _; rw [hW4]; show (wr.setCell ⟨GV, i, none⟩ (.int .u32 f1)).heap[GV]? = _; rw [heap_set wr GV i _ (u32s lv) 29 (0, 0) HV.out, u32s_set]
    have P4 : Hid (W4.heap[GP]? = some (.cells (u32s lp) 29 (0, 0))) := by show _ = _; rw [hW4]; show (wr.setCell ⟨GV, i, none⟩ (.int .u32 f1)).heap[GP]? = _; rw [heap_set_ne wr GV i GP _ PVn.out]; exact HP.out
    have U4 : Hid (But (fun k => k = GP ∨ k = GV) w W4) := by
     show But _ _ _; rw [hW4]
     exact (UW.out.trans (But.set _ GV i _ (Or.inr rfl))).trans (But.below ((Below.refl _ _).drew))
    have s14 : W4.cell? ⟨Ss, 1, none⟩ = some (.slice (some ⟨GP, 0, none⟩) n n) := (SC.out U4.out).2.1
    have pi4 : W4.cell? ⟨GP, i, none⟩ = some (.int .u32 pv) := by rw [cell_of_block P4.out, u32s_at lp i (by rw [LP.out]; exact hlt), jp, hpv]
    have f4 : W4.frozen? ⟨GP, i, none⟩ = false := unfrozen_of_block P4.out _
    have il : (i : Int) < (n : Int) := by omega
    have i0 : (0 : Int) ≤ (i : Int) := by omega
    clear hpv hvv hgv hf1 hmv hrv hf2 hW4 gi jp jv pi s1
    have K5 : Hid ((W4.setCell ⟨GP, i, none⟩ (.int .u32 f2)).cell? ⟨Ss, 1, none⟩ = some (.slice (some ⟨GP, 0, none⟩) n n)) := (SC.out (U4.out.trans (But.set W4 GP i _ (Or.inl rfl)))).2.1
    go_upto_region 3 with fail
    go_region_held3 (fun w' => w'.cell? ⟨T, 16, none⟩ = some (.int .u32 beta) ∧ w'.cell? ⟨Ss, 2, none⟩ = some (.slice (some ⟨GV, 0, none⟩) n n) ∧ w'.cell? ⟨GV, i, none⟩ = some (.int .u32 vv)) (exact ⟨t16, s2, vi⟩) (first
     | (go_at_call 61; refine (X1.out _).mono ?_; rintro e w6 ⟨rfl, hw'⟩; subst w6)
     | (go_at_call 56; refine (X2.out _).mono ?_; rintro e w7 ⟨rfl, hw'⟩; subst w7))
    all_goals
     go_upto_region 5 with fail
     rw [← HW4.out]
     clear t16 s2 gi1 vi fv
     refine wp_region_held_drew (S := fun w' => w'.cell? ⟨Ss, 1, none⟩ = some (.slice (some ⟨GP, 0, none⟩) n n)) (by kernel_rfl) s14 (fun hS => ?_)
     refine wpAnyH_take (i := 0) (oi := ⟨some 40, .move (.tmp 1), 41, "training.go:120", #[], none⟩) (v := ?_) rfl (by kernel_rfl) (by kernel_rfl) (by kernel_rfl) (fun _ _ _ h => h) (Or.inl ⟨by kernel_rfl, ?_⟩) hS ?_
     rotate_left
     · intro w hSw; (try dsimp only at hSw); go_simp; (try with_reducible rfl)
     try go_frame
     refine wpAnyH_take (i := 1) (oi := ⟨some 41, .nilCheck (.tmp 40), 0, "training.go:120", #[⟨0, .data⟩], none⟩) (v := ?_) rfl (by kernel_rfl) (by kernel_rfl) (by kernel_rfl) (fun _ _ _ h => h) (Or.inl ⟨by kernel_rfl, ?_⟩) hS ?_
     rotate_left
     · intro w hSw; (try dsimp only at hSw); go_simp; (try with_reducible rfl)
     try go_frame
     refine wpAnyH_take (i := 2) (oi := ⟨some 42, .fieldAddr 45 (.tmp 41) 1, 0, "training.go:120", #[⟨1, .data⟩], none⟩) (v := ?_) rfl (by kernel_rfl) (by kernel_rfl) (by kernel_rfl) (fun _ _ _ h => h) (Or.inl ⟨by kernel_rfl, ?_⟩) hS ?_
     rotate_left
     · intro w hSw; (try dsimp only at hSw); go_simp; (try with_reducible rfl)
     try go_frame
     refine wpAnyH_take (i := 3) (oi := ⟨some 43, .load 43 (.tmp 42), 43, "training.go:120", #[⟨2, .data⟩], none⟩) (v := ?_) rfl (by kernel_rfl) (by kernel_rfl) (by kernel_rfl) (fun _ _ _ h => h) (Or.inl ⟨by kernel_rfl, ?_⟩) hS ?_
     rotate_left
     · intro w hSw; (try dsimp only at hSw); go_simp; (try with_reducible rfl)
     try go_frame
     refine wpAnyH_take (i := 4) (oi := ⟨some 44, .move (.tmp 8), 3, "training.go:120", #[], none⟩) (v := ?_) rfl (by kernel_rfl) (by kernel_rfl) (by kernel_rfl) (fun _ _ _ h => h) (Or.inl ⟨by kernel_rfl, ?_⟩) hS ?_
     rotate_left
     · intro w hSw; (try dsimp only at hSw); go_simp; (try with_reducible rfl)
     try go_frame
     refine wpAnyH_take (i := 5) (oi := ⟨some 45, .move (.tmp 1), 41, "training.go:120", #[], none⟩) (v := ?_) rfl (by kernel_rfl) (by kernel_rfl) (by kernel_rfl) (fun _ _ _ h => h) (Or.inl ⟨by kernel_rfl, ?_⟩) hS ?_
     rotate_left
     · intro w hSw; (try dsimp only at hSw); go_simp; (try with_reducible rfl)
     try go_frame
     refine wpAnyH_take (i := 6) (oi := ⟨some 46, .nilCheck (.tmp 45), 0, "training.go:120", #[⟨5, .data⟩], none⟩) (v := ?_) rfl (by kernel_rfl) (by kernel_rfl) (by kernel_rfl) (fun _ _ _ h => h) (Or.inl ⟨by kernel_rfl, ?_⟩) hS ?_
     rotate_left
     · intro w hSw; (try dsimp only at hSw); go_simp; (try with_reducible rfl)
     try go_frame
     refine wpAnyH_take (i := 7) (oi := ⟨some 47, .fieldAddr 45 (.tmp 46) 1, 0, "training.go:120", #[⟨6, .data⟩], none⟩) (v := ?_) rfl (by kernel_rfl) (by kernel_rfl) (by kernel_rfl) (fun _ _ _ h => h) (Or.inl ⟨by kernel_rfl, ?_⟩) hS ?_
     rotate_left
     · intro w hSw; (try dsimp only at hSw); go_simp; (try with_reducible rfl)
     try go_frame
     refine wpAnyH_take (i := 8) (oi := ⟨some 48, .load 43 (.tmp 47), 43, "training.go:120", #[⟨7, .data⟩], none⟩) (v := ?_) rfl (by kernel_rfl) (by kernel_rfl) (by kernel_rfl) (fun _ _ _ h => h) (Or.inl ⟨by kernel_rfl, ?_⟩) hS ?_
     rotate_left
     · intro w hSw; (try dsimp only at hSw); go_simp; (try with_reducible rfl)
     try go_frame
     refine wpAnyH_take (i := 9) (oi := ⟨some 49, .move (.tmp 8), 3, "training.go:120", #[], none⟩) (v := ?_) rfl (by kernel_rfl) (by kernel_rfl) (by kernel_rfl) (fun _ _ _ h => h) (Or.inl ⟨by kernel_rfl, ?_⟩) hS ?_
     rotate_left
     · intro w hSw; (try dsimp only at hSw); go_simp; (try with_reducible rfl)
     try go_frame
     refine wpAnyH_take (i := 10) (oi := ⟨some 50, .indexAddr 43 (.tmp 48) (.tmp 49), 0, "training.go:120", #[⟨8, .data⟩, ⟨9, .data⟩], none⟩) (v := ?_) rfl (by kernel_rfl) (by kernel_rfl) (by kernel_rfl) (fun _ _ _ h => h) (Or.inl ⟨by kernel_rfl, ?_⟩) hS ?_
     rotate_left
     · intro w hSw; (try dsimp only at hSw); go_simp; (try with_reducible rfl)
     try go_frame
     refine wpAnyH_take (i := 12) (oi := ⟨some 52, .move (.tmp 3), 29, "training.go:120", #[], none⟩) (v := ?_) rfl (by kernel_rfl) (by kernel_rfl) (by kernel_rfl) (fun _ _ _ h => h) (Or.inl ⟨by kernel_rfl, ?_⟩) hS ?_
     rotate_left
     · intro w hSw; (try dsimp only at hSw); go_simp; (try with_reducible rfl)
     try go_frame
     refine wpAnyH_take (i := 13) (oi := ⟨some 53, .move (.tmp 10), 29, "training.go:120", #[], none⟩) (v := ?_) rfl (by kernel_rfl) (by kernel_rfl) (by kernel_rfl) (fun _ _ _ h => h) (Or.inl ⟨by kernel_rfl, ?_⟩) hS ?_
     rotate_left
     · intro w hSw; (try dsimp only at hSw); go_simp; (try with_reducible rfl)
     try go_frame
     refine wpAnyH_ready (rs := [11, 14]) (by kernel_rfl) (by simp) ?_
     refine AllReadyH.cons (o := ⟨some 51, .load 29 (.tmp 50), 29, "training.go:120", #[⟨10, .data⟩], none⟩) rfl (fun K hK => ?_) ?_
     · go_simp
       refine hK.out _ _ hS (fun hS => ?_)
       try go_frame
       clear hK K
       refine wpAnyH_ready (rs := [14]) (by kernel_rfl) (by simp) ?_
       refine AllReadyH.cons (o := ⟨some 54, .call { callee := .value (.func 61), args := #[.tmp 52, .tmp 53], argTypes := #[29, 29] }, 29, "training.go:120", #[⟨12, .data⟩, ⟨13, .data⟩], none⟩) rfl (fun K hK => ?_) AllReadyH.nil
       go_simp
       refine (X3.out _).mono ?_
       rintro e w6 ⟨rfl, hw'⟩
       subst w6
       go_wp2_with fail
       refine hK.out _ _ hS (fun hS => ?_)
       try go_frame
       clear hK K
       refine wpAnyH_ready (rs := [15]) (by kernel_rfl) (by simp) ?_
       refine AllReadyH.cons (o := ⟨some 55, .call { callee := .value (.func 64), args := #[.tmp 51, .tmp 54], argTypes := #[29, 29] }, 29, "training.go:120", #[⟨11, .data⟩, ⟨14, .data⟩, ⟨14, .chain⟩], none⟩) rfl (fun K hK => ?_) AllReadyH.nil
       go_simp
       refine (X4.out _).mono ?_
       rintro e w7 ⟨rfl, hw'⟩
       subst w7
       go_wp2_with fail
       refine hK.out _ _ hS (fun hS => ?_)
       try go_frame
       clear hK K
       refine wpAnyH_take (i := 16) (oi := ⟨some 56, .indexAddr 43 (.tmp 43) (.tmp 44), 0, "training.go:120", #[⟨3, .data⟩, ⟨4, .data⟩, ⟨0, .phase⟩, ⟨1, .phase⟩, ⟨2, .phase⟩, ⟨3, .phase⟩, ⟨4, .phase⟩, ⟨5, .phase⟩, ⟨6, .phase⟩, ⟨7, .phase⟩, ⟨8, .phase⟩, ⟨9, .phase⟩, ⟨10, .phase⟩, ⟨11, .phase⟩, ⟨12, .phase⟩, ⟨13, .phase⟩, ⟨14, .phase⟩, ⟨15, .phase⟩], none⟩) (v := ?_) rfl (by kernel_rfl) (by kernel_rfl) (by kernel_rfl) (fun _ _ _ h => h) (Or.inl ⟨by kernel_rfl, ?_⟩) hS ?_
       rotate_left
       · intro w hSw; (try dsimp only at hSw); go_simp; (try with_reducible rfl)
       try go_frame
       refine wpAnyH_ready (rs := [17]) (by kernel_rfl) (by simp) ?_
       refine AllReadyH.cons (o := ⟨none, .store 29 (.tmp 56) (.tmp 55), 0, "training.go:120", #[⟨16, .data⟩, ⟨15, .data⟩, ⟨15, .chain⟩, ⟨0, .phase⟩, ⟨1, .phase⟩, ⟨2, .phase⟩, ⟨3, .phase⟩, ⟨4, .phase⟩, ⟨5, .phase⟩, ⟨6, .phase⟩, ⟨7, .phase⟩, ⟨8, .phase⟩, ⟨9, .phase⟩, ⟨10, .phase⟩, ⟨11, .phase⟩, ⟨12, .phase⟩, ⟨13, .phase⟩, ⟨14, .phase⟩, ⟨15, .phase⟩], none⟩) rfl (fun K hK => ?_) AllReadyH.nil
       go_simp
       refine hK.out _ _ K5.out (fun hS => ?_)
       try go_frame
       clear hK K
       refine wpAnyH_done (by kernel_rfl) ?_ _
       go_wp2
       go_roundw
       case rel =>
        refine ⟨i + 1, by omega, by go_num, lp.set i f2, lv.set i f1, ?_, ?_, fun k hk => ?_, fun k hk => ?_, ?_, ?_, ?_⟩
        · show _ = _; rw [List.length_set]; exact LP.out
        · show _ = _; rw [List.length_set]; exact LV.out
        · rw [getD_set, getD_set]
          by_cases e : i = k
          · rw [if_pos ⟨e, by rw [LP.out]; exact hlt⟩, if_pos ⟨e, by rw [LV.out]; exact hlt⟩, F1.out, F2.out, e]; exact ⟨rfl, rfl⟩
          · rw [if_neg (fun h => e h.1), if_neg (fun h => e h.1)]; exact LI.out k (by omega)
        · rw [getD_set, getD_set, if_neg (fun h => by omega), if_neg (fun h => by omega)]; exact LJ.out k (by omega)
        · show (W4.setCell ⟨GP, i, none⟩ (.int .u32 f2)).heap[GP]? = _; rw [heap_set W4 GP i _ (u32s lp) 29 (0, 0) P4.out, u32s_set]
        · show (W4.setCell ⟨GP, i, none⟩ (.int .u32 f2)).heap[GV]? = _; rw [heap_set_ne W4 GP i GV _ (Ne.symm PVn.out)]; exact V4.out
        · exact (U4.out.trans (But.set _ GP i _ (Or.inl rfl))).trans (But.below ((Below.refl _ _).drew))
       case measure => simp [intOf]; omega
     refine AllReadyH.cons (o := ⟨some 54, .call { callee := .value (.func 61), args := #[.tmp 52, .tmp 53], argTypes := #[29, 29] }, 29, "training.go:120", #[⟨12, .data⟩, ⟨13, .data⟩], none⟩) rfl (fun K hK => ?_) AllReadyH.nil
     go_simp
     refine (X3.out _).mono ?_
     rintro e w6 ⟨rfl, hw'⟩
     subst w6
     go_wp2_with fail
     refine hK.out _ _ hS (fun hS => ?_)
     try go_frame
     clear hK K
     refine wpAnyH_ready (rs := [11]) (by kernel_rfl) (by simp) ?_
     refine AllReadyH.cons (o := ⟨some 51, .load 29 (.tmp 50), 29, "training.go:120", #[⟨10, .data⟩], none⟩) rfl (fun K hK => ?_) AllReadyH.nil
     go_simp
     refine hK.out _ _ hS (fun hS => ?_)
     try go_frame
     clear hK K
     refine wpAnyH_ready (rs := [15]) (by kernel_rfl) (by simp) ?_
     refine AllReadyH.cons (o := ⟨some 55, .call { callee := .value (.func 64), args := #[.tmp 51, .tmp 54], argTypes := #[29, 29] }, 29, "training.go:120", #[⟨11, .data⟩, ⟨14, .data⟩, ⟨14, .chain⟩], none⟩) rfl (fun K hK => ?_) AllReadyH.nil
     go_simp
     refine (X4.out _).mono ?_
     rintro e w7 ⟨rfl, hw'⟩
     subst w7
     go_wp2_with fail
     refine hK.out _ _ hS (fun hS => ?_)
     try go_frame
     clear hK K
     refine wpAnyH_take (i := 16) (oi := ⟨some 56, .indexAddr 43 (.tmp 43) (.tmp 44), 0, "training.go:120", #[⟨3, .data⟩, ⟨4, .data⟩, ⟨0, .phase⟩, ⟨1, .phase⟩, ⟨2, .phase⟩, ⟨3, .phase⟩, ⟨4, .phase⟩, ⟨5, .phase⟩, ⟨6, .phase⟩, ⟨7, .phase⟩, ⟨8, .phase⟩, ⟨9, .phase⟩, ⟨10, .phase⟩, ⟨11, .phase⟩, ⟨12, .phase⟩, ⟨13, .phase⟩, ⟨14, .phase⟩, ⟨15, .phase⟩], none⟩) (v := ?_) rfl (by kernel_rfl) (by kernel_rfl) (by kernel_rfl) (fun _ _ _ h => h) (Or.inl ⟨by kernel_rfl, ?_⟩) hS ?_
     rotate_left
     · intro w hSw; (try dsimp only at hSw); go_simp; (try with_reducible rfl)
     try go_frame
     refine wpAnyH_ready (rs := [17]) (by kernel_rfl) (by simp) ?_
     refine AllReadyH.cons (o := ⟨none, .store 29 (.tmp 56) (.tmp 55), 0, "training.go:120", #[⟨16, .data⟩, ⟨15, .data⟩, ⟨15, .chain⟩, ⟨0, .phase⟩, ⟨1, .phase⟩, ⟨2, .phase⟩, ⟨3, .phase⟩, ⟨4, .phase⟩, ⟨5, .phase⟩, ⟨6, .phase⟩, ⟨7, .phase⟩, ⟨8, .phase⟩, ⟨9, .phase⟩, ⟨10, .phase⟩, ⟨11, .phase⟩, ⟨12, .phase⟩, ⟨13, .phase⟩, ⟨14, .phase⟩, ⟨15, .phase⟩], none⟩) rfl (fun K hK => ?_) AllReadyH.nil
     go_simp
     refine hK.out _ _ K5.out (fun hS => ?_)
     try go_frame
     clear hK K
     refine wpAnyH_done (by kernel_rfl) ?_ _
     go_wp2
     go_roundw
     case rel =>
      refine ⟨i + 1, by omega, by go_num, lp.set i f2, lv.set i f1, ?_, ?_, fun k hk => ?_, fun k hk => ?_, ?_, ?_, ?_⟩
      · show _ = _; rw [List.length_set]; exact LP.out
      · show _ = _; rw [List.length_set]; exact LV.out
      · rw [getD_set, getD_set]
        by_cases e : i = k
        · rw [if_pos ⟨e, by rw [LP.out]; exact hlt⟩, if_pos ⟨e, by rw [LV.out]; exact hlt⟩, F1.out, F2.out, e]; exact ⟨rfl, rfl⟩
        · rw [if_neg (fun h => e h.1), if_neg (fun h => e h.1)]; exact LI.out k (by omega)
      · rw [getD_set, getD_set, if_neg (fun h => by omega), if_neg (fun h => by omega)]; exact LJ.out k (by omega)
      · show (W4.setCell ⟨GP, i, none⟩ (.int .u32 f2)).heap[GP]? = _; rw [heap_set W4 GP i _ (u32s lp) 29 (0, 0) P4.out, u32s_set]
      · show (W4.setCell ⟨GP, i, none⟩ (.int .u32 f2)).heap[GV]? = _; rw [heap_set_ne W4 GP i GV _ (Ne.symm PVn.out)]; exact V4.out
      · exact (U4.out.trans (But.set _ GP i _ (Or.inl rfl))).trans (But.below ((Below.refl _ _).drew))
     case measure => simp [intOf]; omega
  · have hie : n = i := by omega
    have RP : Hid (wr.heap[GP]? = some (.cells (u32s ((List.range n).map FP)) 29 (0, 0))) := by
     show _ = _; rw [HP.out, list_of lp n FP LP.out fun k hk => (LI.out k (by omega)).1]
    have RV : Hid (wr.heap[GV]? = some (.cells (u32s ((List.range n).map FV)) 29 (0, 0))) := by
     show _ = _; rw [HV.out, list_of lv n FV LV.out fun k hk => (LI.out k (by omega)).2]
    clear hie
    go_wp2
    go_end0
    exact ⟨rfl, RP.out, RV.out, UW.out⟩
end Go.Proofs.YtoihkljlekknkaaGreat
