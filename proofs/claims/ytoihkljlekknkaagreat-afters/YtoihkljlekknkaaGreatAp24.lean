/-
  A state as a text, of the program. Conditions: the state lies in memory; its numbers are patterns.
-/
import Derived.Test.YtoihkljlekknkaaGreatAp23
namespace Go.Proofs.YtoihkljlekknkaaGreat
open Go.RowKit
open Go.Joins (cell_of_block unfrozen_of_block)
set_option linter.unusedVariables false
set_option linter.unusedSimpArgs false
theorem outB_conv {w : World} {base : Nat} {v : Value} {t : ByteArray} (h : OutB w base v t) (h0 : 0 < t.size) : (convert 73 9 v).run Tryz.prog w = .ok (.string t) w := by
 obtain ⟨a, cap, rfl, ha⟩ := outB_at h
 obtain ⟨g, rfl, hc⟩ := ha h0
 have := run_convert_bytes_back (P := Tryz.prog) w 73 9 5 ⟨g, 0, none⟩ cap t.data.toList (by kernel_rfl) (by kernel_rfl) (by kernel_rfl) hc
 rw [show t.data.toList.length = t.size by simp] at this
 simpa using this
set_option maxHeartbeats 4000000 in
set_option maxRecDepth 100000 in
theorem text_any (s : St) (n st : Nat) (P V M : List Int) (w : World) (hs : StS s n st P V M w) (pP : pats P) (pV : pats V) (pM : pats M) (n4 : n ≤ 1000) (st4 : st ≤ 1000000) :
 Calls Tryz.prog 15 #[.pointer (some ⟨s.Ss, 0, none⟩)] w fun e w' => e = .returned (.string (TEXT (st : Int) P V M)) ∧ Below w.heap.size w w' := by
 obtain ⟨C, h0, d0, d1, d2, d3⟩ := hs.sb
 have q : s.Ss < w.heap.size := lt_of_heap h0
 have SC : Hid (∀ X, Below w.heap.size w X → X.cell? ⟨s.Ss, 1, none⟩ = some (.slice (some ⟨s.gP, 0, none⟩) n n) ∧ X.cell? ⟨s.Ss, 2, none⟩ = some (.slice (some ⟨s.gV, 0, none⟩) n n) ∧ X.cell? ⟨s.Ss, 3, none⟩ = some (.slice (some ⟨s.gW, 0, none⟩) n n)) := fun X h =>
  ⟨(h.cell (p := ⟨s.Ss, 1, none⟩) q).trans ((cell_of_block h0 _).trans d1), (h.cell (p := ⟨s.Ss, 2, none⟩) q).trans ((cell_of_block h0 _).trans d2), (h.cell (p := ⟨s.Ss, 3, none⟩) q).trans ((cell_of_block h0 _).trans d3)⟩
 have c0 : w.cell? ⟨s.Ss, 0, none⟩ = some (.int .i64 (st : Int)) := (cell_of_block h0 _).trans d0
 have AW : Hid (∀ (g : Nat) (L : List Int), w.heap[g]? = some (.cells (u32s L) 29 (0, 0)) → L.length = n → pats L → ∀ X v t, Below w.heap.size w X → OutB X w.heap.size v t → t.size ≤ 1000000 → Calls Tryz.prog 33 #[v, .slice (some ⟨g, 0, none⟩) n n] X fun e w' => ∃ v', e = .returned v' ∧ OutB w' w.heap.size v' (TX t L n) ∧ Below w.heap.size w w') := fun g L hg hl pl X v t b ho ht =>
  (appendWords_any g n n w.heap.size L v t X ho b.size (lt_of_heap hg) (fun i hi => (b.cell (p := ⟨g, i, none⟩) (lt_of_heap hg)).trans ((cell_of_block hg _).trans (u32s_at L i (by omega)))) pl n4 ht).mono (by rintro e w' ⟨v', rfl, h1, h2⟩; exact ⟨v', rfl, h1, b.trans h2⟩)
 obtain ⟨sI, hsI⟩ : ∃ x : Int, x = (st : Int) := ⟨_, rfl⟩
 have sb : 0 ≤ sI ∧ sI ≤ 1000000 := by omega
 obtain ⟨A0, hA0⟩ : ∃ A, A = w.alloc (.cells #[.int .u32 sI] 29) := ⟨_, rfl⟩
 have BA : Hid (Below w.heap.size w A0) := by show Below _ _ _; rw [hA0]; exact (Below.refl _ _).alloc (Nat.le_refl _) _
 have A1 : Hid (Calls Tryz.prog 33 #[.slice none 0 0, .slice (some ⟨w.heap.size, 0, none⟩) 1 1] A0 fun e w' => ∃ v', e = .returned v' ∧ OutB w' w.heap.size v' (fourB sI) ∧ Below w.heap.size w w') := by
  have hz : A0.heap.size = w.heap.size + 1 := by rw [hA0]; simp
  refine (appendWords_any w.heap.size 1 1 (w.heap.size + 1) [sI] (.slice none 0 0) ByteArray.empty A0 (World.ownsRow_nil _ _ _ _) (by omega) (by omega) (fun i hi => ?_) (fun y hy => by simp at hy; omega) (by omega) (by simp)).mono ?_
  · have : i = 0 := by omega
    subst this
    rw [hA0, cell_of_block (heap_alloc_new w _)]; rfl
  · rintro e w' ⟨v', rfl, h1, h2⟩
    refine ⟨v', rfl, ?_, BA.out.trans (h2.mono (by omega))⟩
    have e : TX ByteArray.empty [sI] 1 = fourB sI := by
     show ByteArray.empty ++ fourB sI = _
     simp
    rw [e] at h1
    exact Go.Joins.ownsRow_le h1 (by omega)
 have HA : Hid _ := hA0
 have TE : Hid (TEXT sI P V M = TX (TX (TX (fourB sI) P n) V n) M n) := by show _ = _; unfold TEXT; rw [hs.pl]
 have W1 : Hid _ := AW.out s.gP P hs.p hs.pl pP
 have W2 : Hid _ := AW.out s.gV V hs.v hs.vl pV
 have W3 : Hid _ := AW.out s.gW M hs.m hs.ml pM
 have z0 : (fourB sI).size = 4 := rfl
 rw [← hsI] at c0 ⊢
 rw [hA0] at A1
 obtain ⟨t0, ht0⟩ : ∃ t, t = fourB sI := ⟨_, rfl⟩
 rw [← ht0] at A1 TE z0
 obtain ⟨t1, ht1⟩ : ∃ t, t = TX t0 P n := ⟨_, rfl⟩
 obtain ⟨t2, ht2⟩ : ∃ t, t = TX t1 V n := ⟨_, rfl⟩
 obtain ⟨t3, ht3⟩ : ∃ t, t = TX t2 M n := ⟨_, rfl⟩
 have z1 : t1.size = 4 + 4 * n := by rw [ht1, TX_size, z0]
 have z2 : t2.size = 4 + 4 * n + 4 * n := by rw [ht2, TX_size, z1]
 have z3 : t3.size = 4 + 4 * n + 4 * n + 4 * n := by rw [ht3, TX_size, z2]
 have E1 : Hid (TX t0 P n = t1) := ht1.symm
 have E2 : Hid (TX t1 V n = t2) := ht2.symm
 have E3 : Hid (TX t2 M n = t3) := ht3.symm
 have TE' : Hid (TEXT sI P V M = t3) := by show _ = _; rw [TE.out, ← ht1, ← ht2, ← ht3]
 rw [TE'.out]
 obtain ⟨Ss, hSs⟩ : ∃ X, X = s.Ss := ⟨_, rfl⟩
 obtain ⟨gP, hgP⟩ : ∃ X, X = s.gP := ⟨_, rfl⟩
 obtain ⟨gV, hgV⟩ : ∃ X, X = s.gV := ⟨_, rfl⟩
 obtain ⟨gW, hgW⟩ : ∃ X, X = s.gW := ⟨_, rfl⟩
 simp only [← hSs, ← hgP, ← hgV, ← hgW] at SC c0 W1 W2 W3
 rw [← hSs]
 clear hs h0 d0 d1 d2 d3 q AW TE TE' ht0 ht1 ht2 ht3 hA0 hsI pP pV pM hSs hgP hgV hgW
 go_enter Tryz.func15, Tryz.ntmps15
 go_upto_region 2 with (first
  | (go_at_call 33; refine A1.out.mono ?_; rintro e w1 ⟨v1, rfl, o1, b1⟩
     have O1 : Hid _ := o1
     have B1 : Hid _ := b1
     have s1 := (SC.out _ b1).1
     clear o1 b1))
 go_upto_region 3 with (first
  | (go_at_call 33; refine (W1.out _ _ _ B1.out O1.out (by omega)).mono ?_; rintro e w2 ⟨v2, rfl, o2, b2⟩
     rw [E1.out] at o2
     have O2 : Hid _ := o2
     have B2 : Hid _ := b2
     have s2 := (SC.out _ b2).2.1
     clear o2 b2))
 go_upto_region 4 with (first
  | (go_at_call 33; refine (W2.out _ _ _ B2.out O2.out (by omega)).mono ?_; rintro e w3 ⟨v3, rfl, o3, b3⟩
     rw [E2.out] at o3
     have O3 : Hid _ := o3
     have B3 : Hid _ := b3
     have s3 := (SC.out _ b3).2.2
     clear o3 b3))
 go_upto_region 5 with (first
  | (go_at_call 33; refine (W3.out _ _ _ B3.out O3.out (by omega)).mono ?_; rintro e w4 ⟨v4, rfl, o4, b4⟩
     rw [E3.out] at o4
     have cv := outB_conv o4 (by omega)
     have B4 : Hid _ := b4
     clear o4 b4))
 go_wp2
 go_ret
 exact ⟨rfl, B4.out⟩
end Go.Proofs.YtoihkljlekknkaaGreat
