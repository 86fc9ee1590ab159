/-
  Write of the program's disk, walked. Conditions: the disk stands for a plain state; fewer than 2^41 entries; lengths are ints.
-/
import Derived.Test.YtnkgfoabadjboaaDk14
import Derived.Deep.RegionHeld3
import Derived.Deep.QuietTactic
import Derived.BigQuiet
namespace Go.Proofs.Ytnkgfoabadjboaa
open Go.RowKit
set_option linter.unusedVariables false
set_option linter.unusedSimpArgs false
def XW (O : Nat → Prop) (B : Nat) (fb : Nat → Nat) (vn vk vc : Value) (S : St) (w w' : World) : Prop := XRep w' O B fb vn vk vc (opS S) ∧ Fr O O w w'
theorem xw_of {O : Nat → Prop} {B : Nat} {fb : Nat → Nat} {vn vk vc : Value} {S : St} {w a : World} {rm : Int} (h : a.cell? ⟨B, 4, none⟩ = some (.int .i64 rm) ∧ XW O B fb vn vk vc S w a) : XRep a O B fb vn vk vc (opS S) ∧ Fr O O w a := h.2
theorem xw_keep {O : Nat → Prop} {B : Nat} {fb : Nat → Nat} {vn vk vc : Value} {S : St} {w a b : World} {rm : Int} (hb : Below a.heap.size a b) (h : a.cell? ⟨B, 4, none⟩ = some (.int .i64 rm) ∧ XW O B fb vn vk vc S w a) : b.cell? ⟨B, 4, none⟩ = some (.int .i64 rm) ∧ XW O B fb vn vk vc S w b :=
  ⟨(hb.cell (p := ⟨B, 4, none⟩) (h.2.1.lt B h.2.1.oB)).trans h.1, h.2.1.below hb, h.2.2.trans (Fr.below hb)⟩
theorem putN_rep {w : World} {O : Nat → Prop} {B : Nat} {fb : Nat → Nat} {vn vk vc : Value} {S : St} {m i : Nat} {x y t : ByteArray} (h : XRep w O B fb vn vk vc S) (k : S.Ok m) (hi : i < S.now.length) (hf : w.heap[fb i]? = some (.cells #[.string x, .string y] 122 (0, 0))) : XRep (w.setCell ⟨fb i, 0, none⟩ (.string t)) O B fb vn vk vc (putN S i t) := by
  have hy : y = keptOf S i := by
    have := h.files i hi
    rw [hf] at this
    unfold file at this
    simp at this
    exact this.2
  have := h.putFile (i := i) (a := t) (b := y) k.len hi (by simp) (by rw [heap_set w (fb i) 0 _ _ _ _ hf]; rfl) (fun q hq => Below.heap_setCell w ⟨fb i, 0, none⟩ _ q hq)
  rw [hy, show S.kept.set i (keptOf S i) = S.kept from set_same S.kept i (by rw [k.len]; exact hi)] at this
  exact this
/-- where the files are, with one more -/
def fbN (fb : Nat → Nat) (S : St) (w : World) : Nat → Nat := fun j => if j = S.now.length then w.heap.size else fb j
theorem fbN_new (fb : Nat → Nat) (S : St) (w : World) : fbN fb S w S.now.length = w.heap.size := by simp [fbN]
theorem new_turn {w : World} {O : Nat → Prop} {B : Nat} {fb : Nat → Nat} {vn vk vc : Value} {S : St} {m : Nat} (h : XRep w O B fb vn vk vc S) (k : S.Ok m) (hm : m < 2199023255551) (s : ByteArray) :
    ∃ V, w.alloc (.cells #[.string ByteArray.empty, .string ByteArray.empty] 122) = V ∧ XRep V (fun q => O q ∨ q = w.heap.size) B (fbN fb S w) vn vk vc (newF S) ∧ Fr O (fun q => O q ∨ q = w.heap.size) w V ∧
      Calls Try.prog 123 #[.pointer (some ⟨B, 0, none⟩), .agg #[.string s, .string s, .pointer (some ⟨w.heap.size, 0, none⟩)]] V fun e w' => ∃ O' vn' vc', e = .returned (.tuple #[]) ∧ XRep w' O' B (fbN fb S w) vn' vk vc' (chgS (newF S) (s, s, some S.now.length)) ∧ Fr O O' w w' ∧ w'.heap[w.heap.size]? = some (.cells #[.string ByteArray.empty, .string ByteArray.empty] 122 (0, 0)) ∧ O' w.heap.size := by
  have XV := h.newFile k
  have hb : Below w.heap.size w (w.alloc (.cells #[.string ByteArray.empty, .string ByteArray.empty] 122)) := (Below.refl _ _).alloc (Nat.le_refl _) _
  have FV : Fr O (fun q => O q ∨ q = w.heap.size) w (w.alloc (.cells #[.string ByteArray.empty, .string ByteArray.empty] 122)) :=
    ⟨hb.os, hb.tape, hb.output, hb.size, fun q hq _ => hb.block q hq, fun q hq => by rcases hq with hq | hq; exact Or.inl hq; exact Or.inr (by omega)⟩
  refine ⟨_, rfl, XV, FV, ?_⟩
  have := xturn_some _ B (fbN fb S w) vn vk vc (newF S) (m + 1) s s S.now.length _ XV k.newF (by omega)
  rw [fbN_new] at this
  refine this.mono ?_
  rintro e w' ⟨O', vn', vc', rfl, X', F'⟩
  refine ⟨O', vn', vc', rfl, X', FV.trans F', ?_, ?_⟩
  · have := X'.files S.now.length (by simp [chgS, Ytnkgfoabadjboaa.newF])
    rw [fbN_new] at this
    rw [this]
    unfold file chgS Ytnkgfoabadjboaa.newF
    simp [List.getD_eq_getElem?_getD, k.len]
  · have := X'.ofl S.now.length (by simp [chgS, Ytnkgfoabadjboaa.newF])
    rw [fbN_new] at this
    exact this
theorem putN_new {w w3 : World} {O : Nat → Prop} {B : Nat} {fb : Nat → Nat} {vn vk vc : Value} {S : St} {m : Nat} {s t : ByteArray} (h : XRep w O B (fbN fb (opS S) w3) vn vk vc (chgS (newF (opS S)) (s, s, some S.now.length))) (k : S.Ok m) (hf : w.heap[w3.heap.size]? = some (.cells #[.string ByteArray.empty, .string ByteArray.empty] 122 (0, 0))) :
    XRep (w.setCell ⟨w3.heap.size, 0, none⟩ (.string t)) O B (fbN fb (opS S) w3) vn vk vc (putN (chgS (newF (opS S)) (s, s, some S.now.length)) S.now.length t) := by
  have e : fbN fb (opS S) w3 S.now.length = w3.heap.size := fbN_new fb (opS S) w3
  have hi : S.now.length < (chgS (newF (opS S)) (s, s, some S.now.length)).now.length := by simp [chgS, Ytnkgfoabadjboaa.newF, opS]
  have hl : (chgS (newF (opS S)) (s, s, some S.now.length)).kept.length = (chgS (newF (opS S)) (s, s, some S.now.length)).now.length := by simp [chgS, Ytnkgfoabadjboaa.newF, opS, k.len]
  have hk : (chgS (newF (opS S)) (s, s, some S.now.length)).kept.set S.now.length ByteArray.empty = (chgS (newF (opS S)) (s, s, some S.now.length)).kept := by
    have : S.now.length = S.kept.length := k.len.symm
    simp [chgS, Ytnkgfoabadjboaa.newF, opS, this]
  have := h.putFile (i := S.now.length) (a := t) (b := ByteArray.empty) (w' := w.setCell ⟨w3.heap.size, 0, none⟩ (.string t)) hl hi (by simp) (by rw [e, heap_set w _ 0 _ _ _ _ hf]; rfl) (fun q hq => Below.heap_setCell w ⟨w3.heap.size, 0, none⟩ _ q (by rw [e] at hq; exact hq))
  rw [hk] at this
  exact this
set_option maxHeartbeats 4000000 in
set_option maxRecDepth 100000 in
theorem xwrite_any (O : Nat → Prop) (B : Nat) (fb : Nat → Nat) (vn vk vc : Value) (S : St) (m : Nat) (s t : ByteArray) (w : World) (h : XRep w O B fb vn vk vc S) (k : S.Ok m) (hm0 : m < 2199023255551) (hss : s.size ≤ maxLen) (hts : t.size ≤ maxLen) :
    Calls Try.prog 87 #[.pointer (some ⟨B, 0, none⟩), .string s, .string t] w fun e w' => ∃ O' fb' vn' vc', e = .returned (.int .i64 (wrE S s t)) ∧ XRep w' O' B fb' vn' vk vc' (wrS S s t) ∧ Fr O O' w w' := by
  have hm : m < 2199023255552 := by omega
  have HH : Hid (XRep w O B fb vn vk vc S) := h
  have HK : Hid (S.Ok m) := k
  unfold maxLen at hts
  by_cases h0 : S.left = 0
  · have R : Hid (wrE S s t = 6 ∧ wrS S s t = S) := by show _ ∧ _; unfold wrE wrS; rw [if_pos h0, if_pos h0]; exact ⟨rfl, rfl⟩
    have OPN : Hid _ := h0
    clear h k h0
    go_enter Try.func87, Try.ntmps87
    go_wp2_with (first | (go_at_call 119; refine (xop_none O B fb vn vk vc S _ HH.out OPN.out).mono ?_; rintro e w' ⟨rfl, hw'⟩; subst w'))
    go_ret
    exact ⟨O, fb, vn, vc, ret_int R.out.1.symm, by rw [R.out.2]; exact HH.out, Fr.refl _ _⟩
  · have OPN : Hid _ := h0
    have r0 := k.r0
    obtain ⟨rm, hrm⟩ : ∃ r, r = S.room := ⟨_, rfl⟩
    have HRM : Hid _ := hrm
    rw [← hrm] at r0
    cases hn0 : isNm s
    · have R : Hid (wrE S s t = 4 ∧ wrS S s t = opS S) := by show _ ∧ _; unfold wrE wrS; rw [if_neg h0, if_neg h0, if_pos hn0, if_pos hn0]; exact ⟨rfl, rfl⟩
      clear h k h0 hrm
      go_enter Try.func87, Try.ntmps87
      go_wp2_with (first
        | (go_at_call 119; refine (xop_some O B fb vn vk vc S m _ HH.out HK.out OPN.out).mono ?_; rintro e w1 ⟨rfl, X1, F1⟩
           have c0 : w1.cell? ⟨B, 0, none⟩ = some vn := cell_in X1.blk 0 _ rfl
           have c4 : w1.cell? ⟨B, 4, none⟩ = some (.int .i64 rm) := by rw [HRM.out]; exact cell_in X1.blk 4 _ rfl
           have HX1 : Hid (XRep w1 O B fb vn vk vc (opS S)) := X1
           have HF1 : Hid (Fr O O w w1) := F1
           clear X1 F1)
        | (go_at_call 120; refine (named_any s _ hss).mono ?_; rintro e w' ⟨rfl, hw'⟩; subst w'; rw [hn0]))
      go_ret
      exact ⟨O, fb, vn, vc, ret_int R.out.1.symm, by rw [R.out.2]; exact HX1.out, HF1.out⟩
    · have WE : Hid (wrE S s t = if fullW S s t then 5 else 0) := by show _ = _; unfold wrE; rw [if_neg h0, if_neg (by rw [hn0]; simp)]
      have WS : Hid (wrS S s t = if fullW S s t then opS S else match findN S.names s with | some i => putN (opS S) i t | none => putN (chgS (newF (opS S)) (s, s, some S.now.length)) S.now.length t) := by show _ = _; unfold wrS; rw [if_neg h0, if_neg (by rw [hn0]; simp)]; rfl
      have FU : Hid (fullW S s t ↔ 0 ≤ rm ∧ rm < wrap64 (bytesN S s S.names.length + t.size)) := by show _ ↔ _; rw [hrm]; unfold fullW; exact Iff.rfl
      obtain ⟨us, hus⟩ : ∃ u, u = wrap64 (bytesN S s S.names.length) := ⟨_, rfl⟩
      have USE : Hid (wrap64 (bytesN (opS S) s (opS S).names.length) = us) := by
        show _ = _
        rw [hus]
        have : ∀ n, bytesN (opS S) s n = bytesN S s n := fun n => by induction n with | zero => rfl | succ n ih => unfold bytesN; rw [ih]; rfl
        rw [this]; rfl
      have FU2 : Hid (wrap64 (us + (t.size : Int)) = wrap64 (bytesN S s S.names.length + t.size)) := by show _ = _; rw [hus, wrap_add]
      clear hus
      obtain ⟨uv, huv⟩ : ∃ u, wrap64 (us + (t.size : Int)) = u := ⟨_, rfl⟩
      have huw : IntKind.i64.wrap (us + (t.size : Int)) = uv := by rw [← huv, IntKind.wrap_i64]; unfold wrap64; omega
      rw [huv] at FU2
      by_cases hr : 0 ≤ rm
      · by_cases hfl : rm < uv
        · have ff : fullW S s t := FU.out.2 ⟨hr, by rw [← FU2.out]; exact hfl⟩
          have R : Hid (wrE S s t = 5 ∧ wrS S s t = opS S) := by show _ ∧ _; rw [WE.out, WS.out, if_pos ff, if_pos ff]; exact ⟨rfl, rfl⟩
          clear h k h0 hrm ff WE WS FU FU2
          go_enter Try.func87, Try.ntmps87
          go_upto_region 5 with (first
            | (go_at_call 119; refine (xop_some O B fb vn vk vc S m _ HH.out HK.out OPN.out).mono ?_; rintro e w1 ⟨rfl, X1, F1⟩
               have c0 : w1.cell? ⟨B, 0, none⟩ = some vn := cell_in X1.blk 0 _ rfl
               have c4 : w1.cell? ⟨B, 4, none⟩ = some (.int .i64 rm) := by rw [HRM.out]; exact cell_in X1.blk 4 _ rfl
               have HX1 : Hid (XRep w1 O B fb vn vk vc (opS S)) := X1
               have HF1 : Hid (Fr O O w w1) := F1
               clear X1 F1)
            | (go_at_call 120; refine (named_any s _ hss).mono ?_; rintro e w' ⟨rfl, hw'⟩; subst w'; rw [hn0]))
          have S0 : w1.drew.cell? ⟨B, 4, none⟩ = some (.int .i64 rm) ∧ XW O B fb vn vk vc S w w1.drew := ⟨c4, HX1.out.drew, HF1.out.trans (Fr.below ((Below.refl _ _).drew))⟩
          clear c0 c4
          go_region_held3 (fun w' => w'.cell? ⟨B, 4, none⟩ = some (.int .i64 rm) ∧ XW O B fb vn vk vc S w w') (assumption) (first
            | (go_at_call 121; refine (xused_any O B fb vn vk vc (opS S) m s _ (xw_of ‹_›).1 HK.out.op hm).mono ?_; rintro e w2 ⟨rfl, hb⟩; have S2 := xw_keep hb ‹_›; rw [USE.out]))
          all_goals have HX2 : Hid (XRep w2 O B fb vn vk vc (opS S)) := S2.2.1
          all_goals have HF2 : Hid (Fr O O w w2) := S2.2.2
          all_goals have n0 : w2.cell? ⟨B, 0, none⟩ = some vn := cell_in HX2.out.blk 0 _ rfl
          all_goals go_wp2
          all_goals go_ret
          all_goals exact ⟨O, fb, vn, vc, ret_int R.out.1.symm, by rw [R.out.2]; exact HX2.out, HF2.out⟩
        · have nf : ¬ fullW S s t := fun h => hfl (by rw [FU2.out]; exact (FU.out.1 h).2)
          cases hf : findN S.names s with
          | some i =>
            have R : Hid (wrE S s t = 0 ∧ wrS S s t = putN (opS S) i t) := by show _ ∧ _; rw [WE.out, WS.out, if_neg nf, if_neg nf, hf]; exact ⟨rfl, rfl⟩
            have HF : Hid _ := hf
            have HI : Hid _ := find_lt k hf
            clear h k h0 hrm nf WE WS FU FU2 hf
            go_enter Try.func87, Try.ntmps87
            go_upto_region 5 with (first
              | (go_at_call 119; refine (xop_some O B fb vn vk vc S m _ HH.out HK.out OPN.out).mono ?_; rintro e w1 ⟨rfl, X1, F1⟩
                 have c0 : w1.cell? ⟨B, 0, none⟩ = some vn := cell_in X1.blk 0 _ rfl
                 have c4 : w1.cell? ⟨B, 4, none⟩ = some (.int .i64 rm) := by rw [HRM.out]; exact cell_in X1.blk 4 _ rfl
                 have HX1 : Hid (XRep w1 O B fb vn vk vc (opS S)) := X1
                 have HF1 : Hid (Fr O O w w1) := F1
                 clear X1 F1)
              | (go_at_call 120; refine (named_any s _ hss).mono ?_; rintro e w' ⟨rfl, hw'⟩; subst w'; rw [hn0]))
            have S0 : w1.drew.cell? ⟨B, 4, none⟩ = some (.int .i64 rm) ∧ XW O B fb vn vk vc S w w1.drew := ⟨c4, HX1.out.drew, HF1.out.trans (Fr.below ((Below.refl _ _).drew))⟩
            clear c0 c4
            go_region_held3 (fun w' => w'.cell? ⟨B, 4, none⟩ = some (.int .i64 rm) ∧ XW O B fb vn vk vc S w w') (assumption) (first
              | (go_at_call 121; refine (xused_any O B fb vn vk vc (opS S) m s _ (xw_of ‹_›).1 HK.out.op hm).mono ?_; rintro e w2 ⟨rfl, hb⟩; have S2 := xw_keep hb ‹_›; rw [USE.out]))
            all_goals have HX2 : Hid (XRep w2 O B fb vn vk vc (opS S)) := S2.2.1
            all_goals have HF2 : Hid (Fr O O w w2) := S2.2.2
            all_goals have n0 : w2.cell? ⟨B, 0, none⟩ = some vn := cell_in HX2.out.blk 0 _ rfl
            all_goals
              go_wp2_with (first
                | (go_at_call 122; refine (xfind_some O B fb vn vk vc (opS S) m s i _ HX2.out HK.out.op hm HF.out).mono ?_; rintro e w3 ⟨rfl, hb⟩
                   have HX3 : Hid (XRep w3 O B fb vn vk vc (opS S)) := HX2.out.below hb
                   have HF3 : Hid (Fr O O w w3) := HF2.out.trans (Fr.below hb)
                   have fl := HX3.out.files i HI.out
                   have a0 : w3.cell? ⟨fb i, 0, none⟩ = some (.string (nowOf S i)) := cell_in fl 0 _ rfl
                   have g0 := unfrozen_in fl 0
                   have HFL : Hid (w3.heap[fb i]? = some (.cells #[.string (nowOf S i), .string (keptOf S i)] 122 (0, 0))) := fl
                   clear hb fl))
              go_ret
              refine ⟨O, fb, vn, vc, ret_int R.out.1.symm, ?_, HF3.out.trans (fr_at (HX3.out.ofl i HI.out) _ _)⟩
              rw [R.out.2]
              exact putN_rep HX3.out HK.out.op HI.out HFL.out
          | none =>
            have R : Hid (wrE S s t = 0 ∧ wrS S s t = putN (chgS (newF (opS S)) (s, s, some S.now.length)) S.now.length t) := by show _ ∧ _; rw [WE.out, WS.out, if_neg nf, if_neg nf, hf]; exact ⟨rfl, rfl⟩
            have HF : Hid _ := hf
            clear h k h0 hrm nf WE WS FU FU2 hf
            go_enter Try.func87, Try.ntmps87
            go_upto_region 5 with (first
              | (go_at_call 119; refine (xop_some O B fb vn vk vc S m _ HH.out HK.out OPN.out).mono ?_; rintro e w1 ⟨rfl, X1, F1⟩
                 have c0 : w1.cell? ⟨B, 0, none⟩ = some vn := cell_in X1.blk 0 _ rfl
                 have c4 : w1.cell? ⟨B, 4, none⟩ = some (.int .i64 rm) := by rw [HRM.out]; exact cell_in X1.blk 4 _ rfl
                 have HX1 : Hid (XRep w1 O B fb vn vk vc (opS S)) := X1
                 have HF1 : Hid (Fr O O w w1) := F1
                 clear X1 F1)
              | (go_at_call 120; refine (named_any s _ hss).mono ?_; rintro e w' ⟨rfl, hw'⟩; subst w'; rw [hn0]))
            have S0 : w1.drew.cell? ⟨B, 4, none⟩ = some (.int .i64 rm) ∧ XW O B fb vn vk vc S w w1.drew := ⟨c4, HX1.out.drew, HF1.out.trans (Fr.below ((Below.refl _ _).drew))⟩
            clear c0 c4
            go_region_held3 (fun w' => w'.cell? ⟨B, 4, none⟩ = some (.int .i64 rm) ∧ XW O B fb vn vk vc S w w') (assumption) (first
              | (go_at_call 121; refine (xused_any O B fb vn vk vc (opS S) m s _ (xw_of ‹_›).1 HK.out.op hm).mono ?_; rintro e w2 ⟨rfl, hb⟩; have S2 := xw_keep hb ‹_›; rw [USE.out]))
            all_goals have HX2 : Hid (XRep w2 O B fb vn vk vc (opS S)) := S2.2.1
            all_goals have HF2 : Hid (Fr O O w w2) := S2.2.2
            all_goals have n0 : w2.cell? ⟨B, 0, none⟩ = some vn := cell_in HX2.out.blk 0 _ rfl
            all_goals
              go_upto_region 9 with (first
                | (go_at_call 122; refine (xfind_none O B fb vn vk vc (opS S) m s _ HX2.out HK.out.op hm HF.out).mono ?_; rintro e w3 ⟨rfl, hb⟩
                   have HX3 : Hid (XRep w3 O B fb vn vk vc (opS S)) := HX2.out.below hb
                   have HF3 : Hid (Fr O O w w3) := HF2.out.trans (Fr.below hb)
                   clear hb))
              obtain ⟨V, hV, XV, FV, TN⟩ := new_turn HX3.out HK.out.op hm0 s
              have HV : Hid (w3.alloc (.cells #[.string ByteArray.empty, .string ByteArray.empty] 122) = V) := hV
              have HTN : Hid _ := TN
              clear hV XV FV TN
              go_upto_region 10 with fail
              rw [show (w3.alloc (.cells #[.string { data := #[] }, .string { data := #[] }] 122)) = V from HV.out]
              go_wp2_with (first
                | (go_at_call 123; refine Calls.mono HTN.out ?_; rintro e w4 ⟨O4, vn4, vc4, rfl, X4, F4, fl, ofl⟩
                   have HX4 : Hid (XRep w4 O4 B (fbN fb (opS S) w3) vn4 vk vc4 (chgS (newF (opS S)) (s, s, some S.now.length))) := X4
                   have HF4 : Hid (Fr O O4 w3 w4) := F4
                   have a0 : w4.cell? ⟨w3.heap.size, 0, none⟩ = some (.string ByteArray.empty) := cell_in fl 0 _ rfl
                   have g0 := unfrozen_in fl 0
                   have HFL : Hid (w4.heap[w3.heap.size]? = some (.cells #[.string ByteArray.empty, .string ByteArray.empty] 122 (0, 0))) := fl
                   have HOL : Hid (O4 w3.heap.size) := ofl
                   clear X4 F4 fl ofl))
              go_ret
              refine ⟨O4, fbN fb (opS S) w3, vn4, vc4, ret_int R.out.1.symm, ?_, (HF3.out.trans HF4.out).trans (fr_at HOL.out _ _)⟩
              rw [R.out.2]
              exact putN_new HX4.out HK.out HFL.out
      · have nf : ¬ fullW S s t := fun h => hr (FU.out.1 h).1
        have e1 : rm = -1 := by omega
        clear hrm
        subst e1
        cases hf : findN S.names s with
        | some i =>
          have R : Hid (wrE S s t = 0 ∧ wrS S s t = putN (opS S) i t) := by show _ ∧ _; rw [WE.out, WS.out, if_neg nf, if_neg nf, hf]; exact ⟨rfl, rfl⟩
          have HF : Hid _ := hf
          have HI : Hid _ := find_lt k hf
          clear h k h0 nf WE WS FU FU2 hf USE
          go_enter Try.func87, Try.ntmps87
          go_upto_region 5 with (first
            | (go_at_call 119; refine (xop_some O B fb vn vk vc S m _ HH.out HK.out OPN.out).mono ?_; rintro e w1 ⟨rfl, X1, F1⟩
               have c0 : w1.cell? ⟨B, 0, none⟩ = some vn := cell_in X1.blk 0 _ rfl
               have c4 : w1.cell? ⟨B, 4, none⟩ = some (.int .i64 (-1)) := by rw [HRM.out]; exact cell_in X1.blk 4 _ rfl
               have HX1 : Hid (XRep w1 O B fb vn vk vc (opS S)) := X1
               have HF1 : Hid (Fr O O w w1) := F1
               clear X1 F1)
            | (go_at_call 120; refine (named_any s _ hss).mono ?_; rintro e w' ⟨rfl, hw'⟩; subst w'; rw [hn0]))
          go_quiet (fail)
          have HX2 : Hid (XRep (w1.drewN nq) O B fb vn vk vc (opS S)) := HX1.out.same (Nat.le_refl _) fun _ _ => rfl
          have HF2 : Hid (Fr O O w (w1.drewN nq)) := HF1.out.trans (Fr.below (Go.Joins.below_draws _ _ _))
          obtain ⟨W, hW⟩ : ∃ W, w1.drewN nq = W := ⟨_, rfl⟩
          rw [hW] at HX2 HF2 ⊢
          have n0 : W.cell? ⟨B, 0, none⟩ = some vn := cell_in HX2.out.blk 0 _ rfl
          clear hW c0 c4
          go_wp2_with (first
            | (go_at_call 122; refine (xfind_some O B fb vn vk vc (opS S) m s i _ HX2.out HK.out.op hm HF.out).mono ?_; rintro e w3 ⟨rfl, hb⟩
               have HX3 : Hid (XRep w3 O B fb vn vk vc (opS S)) := HX2.out.below hb
               have HF3 : Hid (Fr O O w w3) := HF2.out.trans (Fr.below hb)
               have fl := HX3.out.files i HI.out
               have a0 : w3.cell? ⟨fb i, 0, none⟩ = some (.string (nowOf S i)) := cell_in fl 0 _ rfl
               have g0 := unfrozen_in fl 0
               have HFL : Hid (w3.heap[fb i]? = some (.cells #[.string (nowOf S i), .string (keptOf S i)] 122 (0, 0))) := fl
               clear hb fl))
          go_ret
          refine ⟨O, fb, vn, vc, ret_int R.out.1.symm, ?_, HF3.out.trans (fr_at (HX3.out.ofl i HI.out) _ _)⟩
          rw [R.out.2]
          exact putN_rep HX3.out HK.out.op HI.out HFL.out
        | none =>
          have R : Hid (wrE S s t = 0 ∧ wrS S s t = putN (chgS (newF (opS S)) (s, s, some S.now.length)) S.now.length t) := by show _ ∧ _; rw [WE.out, WS.out, if_neg nf, if_neg nf, hf]; exact ⟨rfl, rfl⟩
          have HF : Hid _ := hf
          clear h k h0 nf WE WS FU FU2 hf USE
          go_enter Try.func87, Try.ntmps87
          go_upto_region 5 with (first
            | (go_at_call 119; refine (xop_some O B fb vn vk vc S m _ HH.out HK.out OPN.out).mono ?_; rintro e w1 ⟨rfl, X1, F1⟩
               have c0 : w1.cell? ⟨B, 0, none⟩ = some vn := cell_in X1.blk 0 _ rfl
               have c4 : w1.cell? ⟨B, 4, none⟩ = some (.int .i64 (-1)) := by rw [HRM.out]; exact cell_in X1.blk 4 _ rfl
               have HX1 : Hid (XRep w1 O B fb vn vk vc (opS S)) := X1
               have HF1 : Hid (Fr O O w w1) := F1
               clear X1 F1)
            | (go_at_call 120; refine (named_any s _ hss).mono ?_; rintro e w' ⟨rfl, hw'⟩; subst w'; rw [hn0]))
          go_quiet (fail)
          have HX2 : Hid (XRep (w1.drewN nq) O B fb vn vk vc (opS S)) := HX1.out.same (Nat.le_refl _) fun _ _ => rfl
          have HF2 : Hid (Fr O O w (w1.drewN nq)) := HF1.out.trans (Fr.below (Go.Joins.below_draws _ _ _))
          obtain ⟨W, hW⟩ : ∃ W, w1.drewN nq = W := ⟨_, rfl⟩
          rw [hW] at HX2 HF2 ⊢
          have n0 : W.cell? ⟨B, 0, none⟩ = some vn := cell_in HX2.out.blk 0 _ rfl
          clear hW c0 c4
          go_upto_region 9 with (first
            | (go_at_call 122; refine (xfind_none O B fb vn vk vc (opS S) m s _ HX2.out HK.out.op hm HF.out).mono ?_; rintro e w3 ⟨rfl, hb⟩
               have HX3 : Hid (XRep w3 O B fb vn vk vc (opS S)) := HX2.out.below hb
               have HF3 : Hid (Fr O O w w3) := HF2.out.trans (Fr.below hb)
               clear hb))
          obtain ⟨V, hV, XV, FV, TN⟩ := new_turn HX3.out HK.out.op hm0 s
          have HV : Hid (w3.alloc (.cells #[.string ByteArray.empty, .string ByteArray.empty] 122) = V) := hV
          have HTN : Hid _ := TN
          clear hV XV FV TN
          go_upto_region 10 with fail
          rw [show (w3.alloc (.cells #[.string { data := #[] }, .string { data := #[] }] 122)) = V from HV.out]
          go_wp2_with (first
            | (go_at_call 123; refine Calls.mono HTN.out ?_; rintro e w4 ⟨O4, vn4, vc4, rfl, X4, F4, fl, ofl⟩
               have HX4 : Hid (XRep w4 O4 B (fbN fb (opS S) w3) vn4 vk vc4 (chgS (newF (opS S)) (s, s, some S.now.length))) := X4
               have HF4 : Hid (Fr O O4 w3 w4) := F4
               have a0 : w4.cell? ⟨w3.heap.size, 0, none⟩ = some (.string ByteArray.empty) := cell_in fl 0 _ rfl
               have g0 := unfrozen_in fl 0
               have HFL : Hid (w4.heap[w3.heap.size]? = some (.cells #[.string ByteArray.empty, .string ByteArray.empty] 122 (0, 0))) := fl
               have HOL : Hid (O4 w3.heap.size) := ofl
               clear X4 F4 fl ofl))
          go_ret
          refine ⟨O4, fbN fb (opS S) w3, vn4, vc4, ret_int R.out.1.symm, ?_, (HF3.out.trans HF4.out).trans (fr_at HOL.out _ _)⟩
          rw [R.out.2]
          exact putN_new HX4.out HK.out HFL.out
end Go.Proofs.Ytnkgfoabadjboaa
