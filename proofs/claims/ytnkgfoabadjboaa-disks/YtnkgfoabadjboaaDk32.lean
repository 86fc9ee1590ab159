/-
  A pair of disks in memory, with the lists that came out; what a step on one of the two leaves alone. Conditions: those that each law names.
-/
import Derived.Test.YtnkgfoabadjboaaDk31
import Derived.Test.YtnkgfoabadjboaaDkw
namespace Go.Proofs.Ytnkgfoabadjboaa
open Go.RowKit
set_option linter.unusedVariables false
set_option linter.unusedSimpArgs false
theorem LRep.same {w w' : World} {OL : Nat → Prop} {vl vg : Value} {n : Nat} {ls gs : List Value} (h : LRep w OL vl vg n ls gs) (hs : w.heap.size ≤ w'.heap.size) (hb : ∀ k, OL k → w'.heap[k]? = w.heap[k]?) : LRep w' OL vl vg n ls gs where
  rl := owns_same h.rl fun g hg => hb g (h.ol g hg)
  rg := owns_same h.rg fun g hg => hb g (h.og g hg)
  one i hi := by
    obtain ⟨x, y, e1, e2, nl, hn, rx, ry, ox, oy⟩ := h.one i hi
    exact ⟨x, y, e1, e2, nl, hn, owns_same rx fun g hg => hb g (ox g hg), owns_same ry fun g hg => hb g (oy g hg), ox, oy⟩
  ol := h.ol
  og := h.og
  ne := h.ne
  lt k hk := Nat.lt_of_lt_of_le (h.lt k hk) hs
structure PR (w : World) (P B D : Nat) (OX OD OL : Nat → Prop) (fb : Nat → Nat) (vn vk vc vN vK un us uc vl vg : Value) (n : Nat) (ls gs : List Value) (SX SR : St) : Prop where
  blk : w.heap[P]? = some (.cells #[.pointer (some ⟨B, 0, none⟩), .pointer (some ⟨D, 0, none⟩), vl, vg] 45 (0, 0))
  x : XRep w OX B fb vn vk vc SX
  r : RRep w OD D vN vK un us uc SR
  l : LRep w OL vl vg n ls gs
  xd : ∀ k, OX k → ¬ OD k
  xl : ∀ k, OX k → ¬ OL k
  dl : ∀ k, OD k → ¬ OL k
  px : ¬ OX P
  pd : ¬ OD P
  pl : ¬ OL P
/-- the blocks of a pair -/
def own (P : Nat) (OX OD OL : Nat → Prop) : Nat → Prop := fun k => k = P ∨ OX k ∨ OD k ∨ OL k
section
variable {w w' : World} {P B D : Nat} {OX OD OL OX' OD' OL' : Nat → Prop} {fb fb' : Nat → Nat} {vn vk vc vN vK un us uc vl vg vn' vk' vc' vN' vK' un' us' uc' vl' vg' : Value} {n n' : Nat} {ls gs ls' gs' : List Value} {SX SR SX' SR' : St}
theorem PR.ps (h : PR w P B D OX OD OL fb vn vk vc vN vK un us uc vl vg n ls gs SX SR) : P < w.heap.size := (Array.getElem?_eq_some_iff.1 h.blk).1
theorem PR.lt (h : PR w P B D OX OD OL fb vn vk vc vN vK un us uc vl vg n ls gs SX SR) : ∀ k, own P OX OD OL k → k < w.heap.size := by
  intro k hk
  rcases hk with rfl | hk | hk | hk
  · exact h.ps
  · exact h.x.lt k hk
  · exact h.r.lt k hk
  · exact h.l.lt k hk
theorem PR.same (h : PR w P B D OX OD OL fb vn vk vc vN vK un us uc vl vg n ls gs SX SR) (hs : w.heap.size ≤ w'.heap.size) (hb : ∀ k, own P OX OD OL k → w'.heap[k]? = w.heap[k]?) : PR w' P B D OX OD OL fb vn vk vc vN vK un us uc vl vg n ls gs SX SR where
  blk := by rw [hb P (Or.inl rfl)]; exact h.blk
  x := h.x.same hs fun k hk => hb k (Or.inr (Or.inl hk))
  r := h.r.same hs fun k hk => hb k (Or.inr (Or.inr (Or.inl hk)))
  l := h.l.same hs fun k hk => hb k (Or.inr (Or.inr (Or.inr hk)))
  xd := h.xd
  xl := h.xl
  dl := h.dl
  px := h.px
  pd := h.pd
  pl := h.pl
theorem PR.xstep (h : PR w P B D OX OD OL fb vn vk vc vN vK un us uc vl vg n ls gs SX SR) (x' : XRep w' OX' B fb' vn' vk' vc' SX') (f : Fr OX OX' w w') : PR w' P B D OX' OD OL fb' vn' vk' vc' vN vK un us uc vl vg n ls gs SX' SR where
  blk := by rw [f.block P h.ps h.px]; exact h.blk
  x := x'
  r := h.r.apart f fun k hk hx => h.xd k hx hk
  l := h.l.same f.size fun k hk => f.block k (h.l.lt k hk) fun hx => h.xl k hx hk
  xd k hk hd := by
    rcases f.own k hk with q | q
    · exact h.xd k q hd
    · have := h.r.lt k hd; omega
  xl k hk hd := by
    rcases f.own k hk with q | q
    · exact h.xl k q hd
    · have := h.l.lt k hd; omega
  dl := h.dl
  px hk := by
    rcases f.own P hk with q | q
    · exact h.px q
    · have := h.ps; omega
  pd := h.pd
  pl := h.pl
theorem PR.rstep (h : PR w P B D OX OD OL fb vn vk vc vN vK un us uc vl vg n ls gs SX SR) (r' : RRep w' OD' D vN' vK' un' us' uc' SR') (f : Fr OD OD' w w') : PR w' P B D OX OD' OL fb vn vk vc vN' vK' un' us' uc' vl vg n ls gs SX SR' where
  blk := by rw [f.block P h.ps h.pd]; exact h.blk
  x := h.x.apart f fun k hk hd => h.xd k hk hd
  r := r'
  l := h.l.same f.size fun k hk => f.block k (h.l.lt k hk) fun hd => h.dl k hd hk
  xd k hk hd := by
    rcases f.own k hd with q | q
    · exact h.xd k hk q
    · have := h.x.lt k hk; omega
  xl := h.xl
  dl k hd hl := by
    rcases f.own k hd with q | q
    · exact h.dl k q hl
    · have := h.l.lt k hl; omega
  px := h.px
  pd hk := by
    rcases f.own P hk with q | q
    · exact h.pd q
    · have := h.ps; omega
  pl := h.pl
theorem own_x (f : Fr OX OX' w w') : Fr (own P OX OD OL) (own P OX' OD OL) w w' :=
  ⟨f.os, f.tape, f.output, f.size, fun k hk hO => f.block k hk fun q => hO (Or.inr (Or.inl q)), fun k hk => by
    rcases hk with q | q | q | q
    · exact Or.inl (Or.inl q)
    · rcases f.own k q with z | z
      · exact Or.inl (Or.inr (Or.inl z))
      · exact Or.inr z
    · exact Or.inl (Or.inr (Or.inr (Or.inl q)))
    · exact Or.inl (Or.inr (Or.inr (Or.inr q)))⟩
theorem own_r (f : Fr OD OD' w w') : Fr (own P OX OD OL) (own P OX OD' OL) w w' :=
  ⟨f.os, f.tape, f.output, f.size, fun k hk hO => f.block k hk fun q => hO (Or.inr (Or.inr (Or.inl q))), fun k hk => by
    rcases hk with q | q | q | q
    · exact Or.inl (Or.inl q)
    · exact Or.inl (Or.inr (Or.inl q))
    · rcases f.own k q with z | z
      · exact Or.inl (Or.inr (Or.inr (Or.inl z)))
      · exact Or.inr z
    · exact Or.inl (Or.inr (Or.inr (Or.inr q)))⟩
end
/-- a pair under way: its disks, the deed's own block, and what has been left alone since the world w0 -/
def DX (w0 : World) (Q0 : Nat → Prop) (P bd : Nat) (ds : Array Value) (n B D : Nat) (SX SR : St) (w : World) : Prop :=
  ∃ OX OD OL fb vn vk vc vN vK un us uc vl vg ls gs, PR w P B D OX OD OL fb vn vk vc vN vK un us uc vl vg n ls gs SX SR ∧ w.heap[bd]? = some (.cells ds 48 (0, 0)) ∧ ¬ own P OX OD OL bd ∧ Fr Q0 (own P OX OD OL) w0 w
section
variable {w0 w : World} {Q0 : Nat → Prop} {P bd : Nat} {ds : Array Value} {n B D : Nat} {SX SR SX' SR' : St}
theorem DX.drew (h : DX w0 Q0 P bd ds n B D SX SR w) : DX w0 Q0 P bd ds n B D SX SR w.drew := by
  obtain ⟨OX, OD, OL, fb, vn, vk, vc, vN, vK, un, us, uc, vl, vg, ls, gs, p, b, nb, f⟩ := h
  exact ⟨OX, OD, OL, fb, vn, vk, vc, vN, vK, un, us, uc, vl, vg, ls, gs, p.same (Nat.le_refl _) (fun _ _ => rfl), b, nb, f.trans (Fr.below ((Below.refl _ _).drew))⟩
theorem DX.p0 (h : DX w0 Q0 P bd ds n B D SX SR w) : w.cell? ⟨P, 0, none⟩ = some (.pointer (some ⟨B, 0, none⟩)) := by
  obtain ⟨OX, OD, OL, fb, vn, vk, vc, vN, vK, un, us, uc, vl, vg, ls, gs, p, b, nb, f⟩ := h
  exact cell_in p.blk 0 _ rfl
theorem DX.p1 (h : DX w0 Q0 P bd ds n B D SX SR w) : w.cell? ⟨P, 1, none⟩ = some (.pointer (some ⟨D, 0, none⟩)) := by
  obtain ⟨OX, OD, OL, fb, vn, vk, vc, vN, vK, un, us, uc, vl, vg, ls, gs, p, b, nb, f⟩ := h
  exact cell_in p.blk 1 _ rfl
theorem DX.bx (h : DX w0 Q0 P bd ds n B D SX SR w) : w.heap[bd]? = some (.cells ds 48 (0, 0)) := by
  obtain ⟨OX, OD, OL, fb, vn, vk, vc, vN, vK, un, us, uc, vl, vg, ls, gs, p, b, nb, f⟩ := h
  exact b
theorem DX.xcall {f : Nat} {args : Array Value} {r : Value} (h : DX w0 Q0 P bd ds n B D SX SR w)
    (c : ∀ (OX : Nat → Prop) fb vn vk vc, XRep w OX B fb vn vk vc SX → Calls Try.prog f args w fun e w' => ∃ OX' fb' vn' vk' vc', e = .returned r ∧ XRep w' OX' B fb' vn' vk' vc' SX' ∧ Fr OX OX' w w') :
    Calls Try.prog f args w fun e w' => e = .returned r ∧ DX w0 Q0 P bd ds n B D SX' SR w' := by
  obtain ⟨OX, OD, OL, fb, vn, vk, vc, vN, vK, un, us, uc, vl, vg, ls, gs, p, b, nb, f⟩ := h
  refine (c OX fb vn vk vc p.x).mono ?_
  rintro e w' ⟨OX', fb', vn', vk', vc', rfl, x', f'⟩
  have hbd : bd < w.heap.size := (Array.getElem?_eq_some_iff.1 b).1
  refine ⟨rfl, OX', OD, OL, fb', vn', vk', vc', vN, vK, un, us, uc, vl, vg, ls, gs, p.xstep x' f', ?_, ?_, f.trans (own_x f')⟩
  · rw [f'.block bd hbd fun q => nb (Or.inr (Or.inl q))]; exact b
  · intro q
    rcases (own_x (P := P) (OD := OD) (OL := OL) f').own bd q with z | z
    · exact nb z
    · omega
theorem DX.rcall {f : Nat} {args : Array Value} {r : Value} (h : DX w0 Q0 P bd ds n B D SX SR w)
    (c : ∀ (OD : Nat → Prop) vN vK un us uc, RRep w OD D vN vK un us uc SR → Calls Try.prog f args w fun e w' => ∃ OD' vN' vK' un' us' uc', e = .returned r ∧ RRep w' OD' D vN' vK' un' us' uc' SR' ∧ Fr OD OD' w w') :
    Calls Try.prog f args w fun e w' => e = .returned r ∧ DX w0 Q0 P bd ds n B D SX SR' w' := by
  obtain ⟨OX, OD, OL, fb, vn, vk, vc, vN, vK, un, us, uc, vl, vg, ls, gs, p, b, nb, f⟩ := h
  refine (c OD vN vK un us uc p.r).mono ?_
  rintro e w' ⟨OD', vN', vK', un', us', uc', rfl, r', f'⟩
  have hbd : bd < w.heap.size := (Array.getElem?_eq_some_iff.1 b).1
  refine ⟨rfl, OX, OD', OL, fb, vn, vk, vc, vN', vK', un', us', uc', vl, vg, ls, gs, p.rstep r' f', ?_, ?_, f.trans (own_r f')⟩
  · rw [f'.block bd hbd fun q => nb (Or.inr (Or.inr (Or.inl q)))]; exact b
  · intro q
    rcases (own_r (P := P) (OX := OX) (OL := OL) f').own bd q with z | z
    · exact nb z
    · omega
end
end Go.Proofs.Ytnkgfoabadjboaa
