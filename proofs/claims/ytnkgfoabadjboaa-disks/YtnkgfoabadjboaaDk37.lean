/-
  A deed, whatever its kind. Conditions: the pair stands for a plain state; fewer than 2^41 entries and lists; lengths are ints.
-/
import Derived.Test.YtnkgfoabadjboaaDk35
import Derived.Test.YtnkgfoabadjboaaDk36
namespace Go.Proofs.Ytnkgfoabadjboaa
open Go.RowKit
set_option linter.unusedVariables false
set_option linter.unusedSimpArgs false
section
variable {w w' : World} {P B D : Nat} {OX OD OL OL' : Nat → Prop} {fb : Nat → Nat} {vn vk vc vN vK un us uc vl vg vl' vg' : Value} {n n' : Nat} {ls gs ls' gs' : List Value} {SX SR : St}
theorem PR.lstep (h : PR w P B D OX OD OL fb vn vk vc vN vK un us uc vl vg n ls gs SX SR) (l' : LRep w' OL' vl' vg' n' ls' gs') (b' : w'.heap[P]? = some (.cells #[.pointer (some ⟨B, 0, none⟩), .pointer (some ⟨D, 0, none⟩), vl', vg'] 45 (0, 0))) (f : Fr (fun k => k = P ∨ OL k) (fun k => k = P ∨ OL' k) w w') (ho : ∀ k, OL' k → OL k ∨ w.heap.size ≤ k) : PR w' P B D OX OD OL' fb vn vk vc vN vK un us uc vl' vg' n' ls' gs' SX SR where
  blk := b'
  x := h.x.apart f fun k hk q => by
    rcases q with q | q
    · rw [q] at hk; exact h.px hk
    · exact h.xl k hk q
  r := h.r.apart f fun k hk q => by
    rcases q with q | q
    · rw [q] at hk; exact h.pd hk
    · exact h.dl k hk q
  l := l'
  xd := h.xd
  xl k hk q := by
    rcases ho k q with z | z
    · exact h.xl k hk z
    · have := h.x.lt k hk; omega
  dl k hk q := by
    rcases ho k q with z | z
    · exact h.dl k hk z
    · have := h.r.lt k hk; omega
  px := h.px
  pd := h.pd
  pl q := by
    rcases ho P q with z | z
    · exact h.pl z
    · have := h.ps; omega
theorem own_l (f : Fr (fun k => k = P ∨ OL k) (fun k => k = P ∨ OL' k) w w') : Fr (own P OX OD OL) (own P OX OD OL') w w' :=
  ⟨f.os, f.tape, f.output, f.size, fun k hk hO => f.block k hk fun q => hO (by rcases q with q | q; exact Or.inl q; exact Or.inr (Or.inr (Or.inr q))), fun k hk => by
    rcases hk with q | q | q | q
    · exact Or.inl (Or.inl q)
    · exact Or.inl (Or.inr (Or.inl q))
    · exact Or.inl (Or.inr (Or.inr (Or.inl q)))
    · rcases f.own k (Or.inr q) with z | z
      · rcases z with z | z
        · exact Or.inl (Or.inl z)
        · exact Or.inl (Or.inr (Or.inr (Or.inr z)))
      · exact Or.inr z⟩
end
theorem dx_listed {w0 w : World} {Q0 : Nat → Prop} {P bd : Nat} {ds : Array Value} {n B D : Nat} {S : St} {m : Nat} (h : DX w0 Q0 P bd ds n B D S S w) (k : S.Ok m) (hm : m < 2199023255551) (hn : n < 2199023255551) :
    Calls Try.prog 99 #[.pointer (some ⟨P, 0, none⟩)] w fun e w' => e = .returned (.bool true) ∧ DX w0 Q0 P bd ds (n + 1) B D S S w' := by
  obtain ⟨OX, OD, OL, fb, vn, vk, vc, vN, vK, un, us, uc, vl, vg, ls, gs, p, b, nb, f⟩ := h
  refine (listed_any p k hm hn).mono ?_
  rintro e w' ⟨rfl, OL', vl', vg', ls', gs', l', b', f', ho⟩
  have hbd : bd < w.heap.size := (Array.getElem?_eq_some_iff.1 b).1
  refine ⟨rfl, OX, OD, OL', fb, vn, vk, vc, vN, vK, un, us, uc, vl', vg', ls', gs', p.lstep l' b' f' ho, ?_, ?_, f.trans (own_l f')⟩
  · rw [f'.block bd hbd fun q => nb (by rcases q with q | q; exact Or.inl q; exact Or.inr (Or.inr (Or.inr q)))]; exact b
  · intro q
    rcases (own_l (P := P) (OX := OX) (OD := OD) f').own bd q with z | z
    · exact nb z
    · omega
set_option maxHeartbeats 4000000 in
set_option maxRecDepth 100000 in
theorem deed7_any (Q : Nat → Prop) (P n m : Nat) (S : St) (wh a b : Int) (s t : ByteArray) (w : World) (h : PairR w Q P n S) (k : S.Ok m) (hm : m < 2199023255551) (hn : n < 2199023255551) :
    Calls Try.prog 47 #[.pointer (some ⟨P, 0, none⟩), .agg #[.int .i64 wh, .int .i64 7, .string s, .string t, .int .i64 a, .int .i64 b]] w fun e w' => e = .returned (.bool true) ∧ Deedd w Q P n m w' := by
  obtain ⟨B, D, D0⟩ := dstart h #[.int .i64 wh, .int .i64 7, .string s, .string t, .int .i64 a, .int .i64 b]
  obtain ⟨W, hW⟩ : ∃ W, w.alloc (.cells #[.int .i64 wh, .int .i64 7, .string s, .string t, .int .i64 a, .int .i64 b] 48) = W := ⟨_, rfl⟩
  rw [hW] at D0
  have HW : Hid _ := hW
  have k1 : W.cell? ⟨w.heap.size, 1, none⟩ = some (.int .i64 7) := cell_in D0.bx 1 _ rfl
  have C1 : Hid _ := dx_listed D0 k hm hn
  have OK : Hid (S.Ok (m + 1)) := k.next
  clear h k hW D0 hm hn
  go_enter Try.func47, Try.ntmps47
  go_upto_region 1 with fail
  rw [HW.out]
  go_wp2_with (first
    | (go_at_call 99; refine Calls.mono C1.out ?_; rintro e w1 ⟨rfl, D1⟩
       have HD1 : Hid (DX w Q P w.heap.size #[.int .i64 wh, .int .i64 7, .string s, .string t, .int .i64 a, .int .i64 b] (n + 1) B D S S w1) := D1
       clear D1))
  go_ret
  exact ⟨rfl, dend HD1.out OK.out (Nat.le_refl _)⟩
theorem deed_any (Q : Nat → Prop) (P n m : Nat) (S : St) (wh kd a b : Int) (s t : ByteArray) (w : World) (h : PairR w Q P n S) (k : S.Ok m) (hm : m < 2199023255551) (hn : n < 2199023255551) (hs : s.size < 4611686018427387904) (ht : t.size < 4611686018427387904) (ha : -9223372036854775808 ≤ a ∧ a ≤ 9223372036854775807) (hb : -9223372036854775808 ≤ b ∧ b ≤ 9223372036854775807) :
    Calls Try.prog 47 #[.pointer (some ⟨P, 0, none⟩), .agg #[.int .i64 wh, .int .i64 kd, .string s, .string t, .int .i64 a, .int .i64 b]] w fun e w' => e = .returned (.bool true) ∧ Deedd w Q P n m w' := by
  by_cases h1 : kd = 1
  · rw [h1]; exact deed1_any Q P n m S wh a b s t w h k hm hs ht ha hb
  by_cases h2 : kd = 2
  · rw [h2]; exact deed2_any Q P n m S wh a b s t w h k hm hs ht ha hb
  by_cases h3 : kd = 3
  · rw [h3]; exact deed3_any Q P n m S wh a b s t w h k hm hs ht ha hb
  by_cases h4 : kd = 4
  · rw [h4]; exact deed4_any Q P n m S wh a b s t w h k hm hs ht ha hb
  by_cases h5 : kd = 5
  · rw [h5]; exact deed5_any Q P n m S wh a b s t w h k hm hs ht ha hb
  by_cases h6 : kd = 6
  · rw [h6]; exact deed6_any Q P n m S wh a b s t w h k hm hs ht ha hb
  by_cases h7 : kd = 7
  · rw [h7]; exact deed7_any Q P n m S wh a b s t w h k hm hn
  by_cases h8 : kd = 8
  · rw [h8]; exact deed8_any Q P n m S wh a b s t w h k hm hs ht ha hb
  by_cases h9 : kd = 9
  · rw [h9]; exact deed9_any Q P n m S wh a b s t w h k hm hs ht ha hb
  by_cases h10 : kd = 10
  · rw [h10]; exact deed10_any Q P n m S wh a b s t w h k hm hs ht ha hb
  exact deed0_any Q P n m S wh kd a b s t w h1 h2 h3 h4 h5 h6 h7 h8 h9 h10 h k hm hs ht ha hb
end Go.Proofs.Ytnkgfoabadjboaa
