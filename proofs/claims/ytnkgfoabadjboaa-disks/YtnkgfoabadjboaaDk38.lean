/-
  The two pairs of disks that the law makes, apart from one another; a new pair; a deed on one of them; the looks at the lists. Conditions: fewer than 2^41 deeds.
-/
import Derived.Test.YtnkgfoabadjboaaDk37
namespace Go.Proofs.Ytnkgfoabadjboaa
open Go.RowKit
set_option linter.unusedVariables false
set_option linter.unusedSimpArgs false
/-- a new disk -/
def St0 : St := ⟨[], [], [], [], [], -1, -1⟩
theorem st0_ok : St0.Ok 0 where
  len := rfl
  nums e he := by cases he
  nums2 e he := by cases he
  nums3 c hc := by cases hc
  rise := List.Pairwise.nil
  rise2 := List.Pairwise.nil
  tx t ht := by cases ht
  tx2 t ht := by cases ht
  ln := Nat.le_refl _
  ls := Nat.le_refl _
  lf := Nat.le_refl _
  l0 := ⟨by show (-1 : Int) ≤ -1; omega, by show (-1 : Int) ≤ _; omega⟩
  r0 := ⟨by show (-1 : Int) ≤ -1; omega, by show (-1 : Int) ≤ _; omega⟩
theorem mine_nil (O : Nat → Prop) : ∀ b, (Value.slice none 0 0).ownBlock = some b → O b := fun b hb => by simp [Value.ownBlock] at hb
theorem pair_new {w : World} {B D P : Nat} (hB : w.heap[B]? = some (.cells #[.slice none 0 0, .slice none 0 0, .slice none 0 0, .int .i64 (-1), .int .i64 (-1)] 92 (0, 0)))
    (hD : w.heap[D]? = some (.cells #[.slice none 0 0, .slice none 0 0, .slice none 0 0, .slice none 0 0, .slice none 0 0, .int .i64 (-1), .int .i64 (-1)] 97 (0, 0)))
    (hP : w.heap[P]? = some (.cells #[.pointer (some ⟨B, 0, none⟩), .pointer (some ⟨D, 0, none⟩), .slice none 0 0, .slice none 0 0] 45 (0, 0))) :
    PairR w (own P (fun k => k = B) (fun k => k = D) (fun _ => False)) P 0 St0 := by
  have bd : B ≠ D := kind_ne hB hD (by decide)
  have pb : P ≠ B := kind_ne hP hB (by decide)
  have pd : P ≠ D := kind_ne hP hD (by decide)
  have lB := (Array.getElem?_eq_some_iff.1 hB).1
  have lD := (Array.getElem?_eq_some_iff.1 hD).1
  have nil9 : ∀ t s, w.ownsRow 0 t s (.slice none 0 0) 0 [] := fun t s => World.ownsRow_nil _ _ _ _
  refine ⟨B, D, fun k => k = B, fun k => k = D, fun _ => False, fun _ => 0, .slice none 0 0, .slice none 0 0, .slice none 0 0, .slice none 0 0, .slice none 0 0, .slice none 0 0, .slice none 0 0, .slice none 0 0, .slice none 0 0, .slice none 0 0, [], [], ?_, rfl⟩
  exact {
    blk := hP
    x := {
      blk := hB
      names := nil9 _ _
      safe := nil9 _ _
      chg := nil9 _ _
      files := fun i hi => by cases hi
      inj := fun i j hi => by cases hi
      oB := rfl
      on := mine_nil _
      ok := mine_nil _
      oc := mine_nil _
      ofl := fun i hi => by cases hi
      lt := fun k hk => by rw [hk]; exact lB }
    r := {
      blk := hD
      now := nil9 _ _
      kept := nil9 _ _
      names := nil9 _ _
      safe := nil9 _ _
      chg := nil9 _ _
      nk := fun a ha => by simp [Value.ownBlock] at ha
      oD := rfl
      oN := mine_nil _
      oK := mine_nil _
      on := mine_nil _
      os := mine_nil _
      oc := mine_nil _
      lt := fun k hk => by rw [hk]; exact lD }
    l := {
      rl := nil9 _ _
      rg := nil9 _ _
      one := fun i hi => by cases hi
      ol := mine_nil _
      og := mine_nil _
      ne := fun a ha => by simp [Value.ownBlock] at ha
      lt := fun k hk => hk.elim }
    xd := fun k hk hd => bd (hk.symm.trans hd)
    xl := fun k _ h => h
    dl := fun k _ h => h
    px := pb
    pd := pd
    pl := fun h => h }
theorem PairR.lt {w : World} {Q : Nat → Prop} {P n : Nat} {S : St} (h : PairR w Q P n S) : ∀ k, Q k → k < w.heap.size := by
  obtain ⟨B, D, OX, OD, OL, fb, vn, vk, vc, vN, vK, un, us, uc, vl, vg, ls, gs, p, rfl⟩ := h
  exact p.lt
theorem PairR.same {w w' : World} {Q : Nat → Prop} {P n : Nat} {S : St} (h : PairR w Q P n S) (hs : w.heap.size ≤ w'.heap.size) (hb : ∀ k, Q k → w'.heap[k]? = w.heap[k]?) : PairR w' Q P n S := by
  obtain ⟨B, D, OX, OD, OL, fb, vn, vk, vc, vN, vK, un, us, uc, vl, vg, ls, gs, p, rfl⟩ := h
  exact ⟨B, D, OX, OD, OL, fb, vn, vk, vc, vN, vK, un, us, uc, vl, vg, ls, gs, p.same hs hb, rfl⟩
theorem PairR.whole {w : World} {Q : Nat → Prop} {P n : Nat} {S : St} (h : PairR w Q P n S) (hn : n < 2199023255552) :
    Calls Try.prog 49 #[.pointer (some ⟨P, 0, none⟩)] w fun e w' => e = .returned (.bool true) ∧ Below w.heap.size w w' := by
  obtain ⟨B, D, OX, OD, OL, fb, vn, vk, vc, vN, vK, un, us, uc, vl, vg, ls, gs, p, rfl⟩ := h
  exact whole_any P _ _ vl vg OL n ls gs w p.l hn p.blk p.ps
structure Prs (W0 w : World) (c : Nat) (lv : Value) (Pf : Nat → Nat) (m : Nat) (Q : Nat → Nat → Prop) (nf : Nat → Nat) (Sf : Nat → St) : Prop where
  row : w.ownsRow W0.heap.size 40 1 lv c ((List.range c).map fun j => .pointer (some ⟨Pf j, 0, none⟩))
  prs : ∀ j, j < c → PairR w (Q j) (Pf j) (nf j) (Sf j)
  ok : ∀ j, j < c → (Sf j).Ok m ∧ nf j ≤ m
  ap : ∀ i j k, i < c → j < c → i ≠ j → Q i k → ¬ Q j k
  rw : ∀ j k, j < c → Q j k → lv.ownBlock ≠ some k
  new : ∀ j k, j < c → Q j k → W0.heap.size ≤ k
  bel : Below W0.heap.size W0 w
def PrsE (W0 : World) (c : Nat) (lv : Value) (Pf : Nat → Nat) (m : Nat) (w : World) : Prop := ∃ Q nf Sf, Prs W0 w c lv Pf m Q nf Sf
theorem PrsE.below {W0 w w' : World} {c m : Nat} {lv : Value} {Pf : Nat → Nat} (h : PrsE W0 c lv Pf m w) (b : Below w.heap.size w w') : PrsE W0 c lv Pf m w' := by
  obtain ⟨Q, nf, Sf, h⟩ := h
  exact ⟨Q, nf, Sf, {
    row := owns_same h.row fun z hz => b.block z (World.ownsRow.lt h.row z hz).2
    prs := fun j hj => (h.prs j hj).same b.size fun k hk => b.block k ((h.prs j hj).lt k hk)
    ok := h.ok
    ap := h.ap
    rw := h.rw
    new := h.new
    bel := h.bel.trans (b.mono h.bel.size) }⟩
theorem PrsE.bel {W0 w : World} {c m : Nat} {lv : Value} {Pf : Nat → Nat} (h : PrsE W0 c lv Pf m w) : Below W0.heap.size W0 w := by
  obtain ⟨Q, nf, Sf, h⟩ := h
  exact h.bel
theorem PrsE.at {W0 w : World} {c m g n cap : Nat} {Pf : Nat → Nat} (h : PrsE W0 c (.slice (some ⟨g, 0, none⟩) n cap) Pf m w) (hn : n = c) (j : Nat) (hj : j < c) : w.cell? ⟨g, j, none⟩ = some (.pointer (some ⟨Pf j, 0, none⟩)) := by
  subst hn
  obtain ⟨Q, nf, Sf, h⟩ := h
  rw [World.ownsRow.cellAt h.row j (by omega), List.getElem?_map, List.getElem?_range hj]
  rfl
theorem PrsE.lv {W0 w : World} {c m : Nat} {lv : Value} {Pf : Nat → Nat} (h : PrsE W0 c lv Pf m w) : ∃ a cap, lv = .slice a c cap ∧ (0 < c → ∃ g, a = some ⟨g, 0, none⟩ ∧ g < w.heap.size) := by
  obtain ⟨Q, nf, Sf, h⟩ := h
  exact row_form h.row
theorem prs_whole {W0 w : World} {c m : Nat} {lv : Value} {Pf : Nat → Nat} (h : PrsE W0 c lv Pf m w) (hm : m < 2199023255551) (j : Nat) (hj : j < c) :
    Calls Try.prog 49 #[.pointer (some ⟨Pf j, 0, none⟩)] w fun e w' => e = .returned (.bool true) ∧ PrsE W0 c lv Pf m w' := by
  obtain ⟨Q, nf, Sf, p⟩ := h
  have := (p.ok j hj).2
  refine ((p.prs j hj).whole (by omega)).mono ?_
  rintro e w' ⟨rfl, b⟩
  exact ⟨rfl, PrsE.below ⟨Q, nf, Sf, p⟩ b⟩
theorem prs_deed {W0 w : World} {c m : Nat} {lv : Value} {Pf : Nat → Nat} (h : PrsE W0 c lv Pf m w) (hm : m < 2199023255551) (j : Nat) (hj : j < c) (wh kd a b : Int) (s t : ByteArray) (hs : s.size < 4611686018427387904) (ht : t.size < 4611686018427387904) (ha : -9223372036854775808 ≤ a ∧ a ≤ 9223372036854775807) (hb : -9223372036854775808 ≤ b ∧ b ≤ 9223372036854775807) :
    Calls Try.prog 47 #[.pointer (some ⟨Pf j, 0, none⟩), .agg #[.int .i64 wh, .int .i64 kd, .string s, .string t, .int .i64 a, .int .i64 b]] w fun e w' => e = .returned (.bool true) ∧ PrsE W0 c lv Pf (m + 1) w' := by
  obtain ⟨Q, nf, Sf, p⟩ := h
  have ok := p.ok j hj
  refine (deed_any (Q j) (Pf j) (nf j) m (Sf j) wh kd a b s t w (p.prs j hj) ok.1 hm (by omega) hs ht ha hb).mono ?_
  rintro e w' ⟨rfl, Q', S', n', pr, f, k', hn'⟩
  refine ⟨rfl, fun i => if i = j then Q' else Q i, fun i => if i = j then n' else nf i, fun i => if i = j then S' else Sf i, ?_⟩
  have far : ∀ k, k < w.heap.size → ¬ Q j k → w'.heap[k]? = w.heap[k]? := fun k hk hq => f.block k hk hq
  exact {
    row := owns_same p.row fun z hz => far z (World.ownsRow.lt p.row z hz).2 fun q => p.rw j z hj q hz
    prs := fun i hi => by
      by_cases e : i = j
      · simp only [e, if_true]; exact pr
      · simp only [e, if_false]
        exact (p.prs i hi).same f.size fun k hk => far k ((p.prs i hi).lt k hk) fun q => p.ap i j k hi hj e hk q
    ok := fun i hi => by
      by_cases e : i = j
      · simp only [e, if_true]; exact ⟨k', by omega⟩
      · simp only [e, if_false]
        have := p.ok i hi
        exact ⟨this.1.next, by omega⟩
    ap := fun i l k hi hl hne q1 q2 => by
      by_cases e1 : i = j
      · by_cases e2 : l = j
        · exact hne (e1.trans e2.symm)
        · simp only [e1, if_true] at q1
          simp only [e2, if_false] at q2
          rcases f.own k q1 with z | z
          · exact p.ap j l k hj hl (fun e => e2 e.symm) z q2
          · have := (p.prs l hl).lt k q2; omega
      · simp only [e1, if_false] at q1
        by_cases e2 : l = j
        · simp only [e2, if_true] at q2
          rcases f.own k q2 with z | z
          · exact p.ap i j k hi hj e1 q1 z
          · have := (p.prs i hi).lt k q1; omega
        · simp only [e2, if_false] at q2
          exact p.ap i l k hi hl hne q1 q2
    rw := fun i k hi q hz => by
      have hz' := (World.ownsRow.lt p.row k hz).2
      by_cases e : i = j
      · simp only [e, if_true] at q
        rcases f.own k q with z | z
        · exact p.rw j k hj z hz
        · omega
      · simp only [e, if_false] at q
        exact p.rw i k hi q hz
    new := fun i k hi q => by
      by_cases e : i = j
      · simp only [e, if_true] at q
        rcases f.own k q with z | z
        · exact p.new j k hj z
        · have := p.bel.size; omega
      · simp only [e, if_false] at q
        exact p.new i k hi q
    bel := ⟨f.os.trans p.bel.os, f.tape.trans p.bel.tape, f.output.trans p.bel.output, Nat.le_trans p.bel.size f.size, fun k hk => by
      rw [far k (Nat.lt_of_lt_of_le hk p.bel.size) fun q => by have := p.new j k hj q; omega]
      exact p.bel.block k hk⟩ }
theorem Try.infoP : (Try.prog.info? 40).map (fun i => (i.zero, i.size, i.bytes)) = some (some (.pointer none), 1, 8) := by kernel_rfl
/-- one pair more: w the world ahead of it, w' behind -/
theorem PrsE.more {W0 w w1 w' : World} {c m g cap : Nat} {lv : Value} {Pf : Nat → Nat} (h : PrsE W0 c lv Pf m w) (hw1 : Below w.heap.size w w1) (B D P : Nat) (nB : w.heap.size ≤ B) (nD : w.heap.size ≤ D) (nP : w.heap.size ≤ P)
    (hB : w1.heap[B]? = some (.cells #[.slice none 0 0, .slice none 0 0, .slice none 0 0, .int .i64 (-1), .int .i64 (-1)] 92 (0, 0)))
    (hD : w1.heap[D]? = some (.cells #[.slice none 0 0, .slice none 0 0, .slice none 0 0, .slice none 0 0, .slice none 0 0, .int .i64 (-1), .int .i64 (-1)] 97 (0, 0)))
    (hP : w1.heap[P]? = some (.cells #[.pointer (some ⟨B, 0, none⟩), .pointer (some ⟨D, 0, none⟩), .slice none 0 0, .slice none 0 0] 45 (0, 0)))
    (own' : w'.ownsRow W0.heap.size 40 1 (.slice (some ⟨g, 0, none⟩) (c + 1) cap) (c + 1) (((List.range c).map fun j => .pointer (some ⟨Pf j, 0, none⟩)) ++ [.pointer (some ⟨P, 0, none⟩)])) (gr : w1.grownBy w' lv.ownBlock) (hat : lv.ownBlock = some g ∨ g = w1.heap.size) :
    PrsE W0 (c + 1) (.slice (some ⟨g, 0, none⟩) (c + 1) cap) (fun j => if j = c then P else Pf j) m w' := by
  obtain ⟨Q, nf, Sf, p⟩ := h
  have lB := (Array.getElem?_eq_some_iff.1 hB).1
  have lD := (Array.getElem?_eq_some_iff.1 hD).1
  have lP := (Array.getElem?_eq_some_iff.1 hP).1
  have lvlt : ∀ b, lv.ownBlock = some b → W0.heap.size ≤ b ∧ b < w.heap.size := World.ownsRow.lt p.row
  have s1 := hw1.size
  have s0 := p.bel.size
  have keep : ∀ k, k < w1.heap.size → lv.ownBlock ≠ some k → w'.heap[k]? = w1.heap[k]? := fun k hk hn => gr.block k hk fun e => hn e.symm
  have kB := keep B lB fun e => by have := (lvlt B e).2; omega
  have kD := keep D lD fun e => by have := (lvlt D e).2; omega
  have kP := keep P lP fun e => by have := (lvlt P e).2; omega
  have np := pair_new (w := w') (kB.trans hB) (kD.trans hD) (kP.trans hP)
  have old : ∀ j k, j < c → Q j k → k < w.heap.size := fun j k hj q => (p.prs j hj).lt k q
  have nq : ∀ k, own P (fun k => k = B) (fun k => k = D) (fun _ => False) k → w.heap.size ≤ k ∧ k < w1.heap.size := fun k hk => by
    rcases hk with e | e | e | e
    · rw [e]; exact ⟨nP, lP⟩
    · rw [e]; exact ⟨nB, lB⟩
    · rw [e]; exact ⟨nD, lD⟩
    · exact e.elim
  refine ⟨fun i => if i = c then own P (fun k => k = B) (fun k => k = D) (fun _ => False) else Q i, fun i => if i = c then 0 else nf i, fun i => if i = c then St0 else Sf i, ?_⟩
  exact {
    row := by
      have e : ((List.range (c + 1)).map fun j => Value.pointer (some ⟨if j = c then P else Pf j, 0, none⟩)) = ((List.range c).map fun j => Value.pointer (some ⟨Pf j, 0, none⟩)) ++ [.pointer (some ⟨P, 0, none⟩)] := by
        rw [List.range_succ, List.map_append]
        congr 1
        · refine List.map_congr_left fun j hj => ?_
          have : j < c := List.mem_range.1 hj
          simp [show ¬ j = c by omega]
        · simp
      rw [e]; exact own'
    prs := fun j hj => by
      by_cases e : j = c
      · simp only [e, if_true]; exact np
      · simp only [e, if_false]
        have hj' : j < c := by omega
        refine (p.prs j hj').same (by have := gr.size; omega) fun k hk => ?_
        have hk' := old j k hj' hk
        rw [keep k (by omega) (p.rw j k hj' hk)]
        exact hw1.block k hk'
    ok := fun j hj => by
      by_cases e : j = c
      · simp only [e, if_true]; exact ⟨st0_ok.mono (Nat.zero_le _), Nat.zero_le _⟩
      · simp only [e, if_false]; exact p.ok j (by omega)
    ap := fun i j k hi hj hne q1 q2 => by
      by_cases e1 : i = c
      · by_cases e2 : j = c
        · exact hne (e1.trans e2.symm)
        · simp only [e1, if_true] at q1
          simp only [e2, if_false] at q2
          have := (nq k q1).1
          have := old j k (by omega) q2
          omega
      · simp only [e1, if_false] at q1
        by_cases e2 : j = c
        · simp only [e2, if_true] at q2
          have := (nq k q2).1
          have := old i k (by omega) q1
          omega
        · simp only [e2, if_false] at q2
          exact p.ap i j k (by omega) (by omega) hne q1 q2
    rw := fun j k hj q hz => by
      have e0 : g = k := by simpa [Value.ownBlock] using hz
      by_cases e : j = c
      · simp only [e, if_true] at q
        have := nq k q
        rcases hat with z | z
        · have := (lvlt g z).2; omega
        · omega
      · simp only [e, if_false] at q
        have h1 := old j k (by omega) q
        rcases hat with z | z
        · exact p.rw j k (by omega) q (by rw [← e0]; exact z)
        · omega
    new := fun j k hj q => by
      by_cases e : j = c
      · simp only [e, if_true] at q
        have := (nq k q).1
        omega
      · simp only [e, if_false] at q
        exact p.new j k (by omega) q
    bel := (p.bel.trans (hw1.mono s0)).grown gr (by omega) fun b hb => (lvlt b hb).1 }
end Go.Proofs.Ytnkgfoabadjboaa
