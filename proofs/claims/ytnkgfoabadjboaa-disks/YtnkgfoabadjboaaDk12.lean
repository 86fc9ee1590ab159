/-
  Rename, Remove, SyncNames, Read and Limit of the program's disk. Conditions: the disk stands for a plain state; fewer than 2^41 entries; lengths are ints.
-/
import Derived.Test.YtnkgfoabadjboaaDk11
namespace Go.Proofs.Ytnkgfoabadjboaa
open Go.RowKit
set_option linter.unusedVariables false
set_option linter.unusedSimpArgs false
def chgS (S : St) (c : Chg) : St := { S with names := turnN S.names c, chg := S.chg ++ [c] }
def renE (S : St) (a b : ByteArray) : Int := if S.left = 0 then 6 else match findN S.names a with | none => 4 | some _ => if isNm b = true then 0 else 4
def renS (S : St) (a b : ByteArray) : St := if S.left = 0 then S else match findN S.names a with | none => opS S | some i => if isNm b = true then chgS (opS S) (a, b, some i) else opS S
def remE (S : St) (a : ByteArray) : Int := if S.left = 0 then 6 else match findN S.names a with | none => 4 | some _ => 0
def remS (S : St) (a : ByteArray) : St := if S.left = 0 then S else match findN S.names a with | none => opS S | some _ => chgS (opS S) (a, a, none)
theorem xturn_some (O : Nat → Prop) (B : Nat) (fb : Nat → Nat) (vn vk vc : Value) (S : St) (m : Nat) (g n : ByteArray) (i : Nat) (w : World) (h : XRep w O B fb vn vk vc S) (k : S.Ok m) (hm : m < 2199023255552) :
    Calls Try.prog 123 #[.pointer (some ⟨B, 0, none⟩), .agg #[.string g, .string n, .pointer (some ⟨fb i, 0, none⟩)]] w fun e w' => ∃ O' vn' vc', e = .returned (.tuple #[]) ∧ XRep w' O' B fb vn' vk vc' (chgS S (g, n, some i)) ∧ Fr O O' w w' := xturn_any O B fb vn vk vc S m g n (some i) w h k hm
theorem xturn_none (O : Nat → Prop) (B : Nat) (fb : Nat → Nat) (vn vk vc : Value) (S : St) (m : Nat) (g n : ByteArray) (w : World) (h : XRep w O B fb vn vk vc S) (k : S.Ok m) (hm : m < 2199023255552) :
    Calls Try.prog 123 #[.pointer (some ⟨B, 0, none⟩), .agg #[.string g, .string n, .pointer none]] w fun e w' => ∃ O' vn' vc', e = .returned (.tuple #[]) ∧ XRep w' O' B fb vn' vk vc' (chgS S (g, n, none)) ∧ Fr O O' w w' := xturn_any O B fb vn vk vc S m g n none w h k hm
set_option maxHeartbeats 2000000 in
set_option maxRecDepth 100000 in
theorem xrem_any (O : Nat → Prop) (B : Nat) (fb : Nat → Nat) (vn vk vc : Value) (S : St) (m : Nat) (s : ByteArray) (w : World) (h : XRep w O B fb vn vk vc S) (k : S.Ok m) (hm : m < 2199023255552) :
    Calls Try.prog 95 #[.pointer (some ⟨B, 0, none⟩), .string s] w fun e w' => ∃ O' vn' vc', e = .returned (.int .i64 (remE S s)) ∧ XRep w' O' B fb vn' vk vc' (remS S s) ∧ Fr O O' w w' := by
  have HH : Hid (XRep w O B fb vn vk vc S) := h
  have HK : Hid (S.Ok m) := k
  by_cases h0 : S.left = 0
  · have R : Hid (remE S s = 6 ∧ remS S s = S) := by show _ ∧ _; unfold remE remS; rw [if_pos h0, if_pos h0]; exact ⟨rfl, rfl⟩
    have OPN : Hid _ := h0
    clear h k h0
    go_enter Try.func95, Try.ntmps95
    go_wp2_with (first | (go_at_call 119; refine (xop_none O B fb vn vk vc S _ HH.out OPN.out).mono ?_; rintro e w' ⟨rfl, hw'⟩; subst w'))
    go_ret
    exact ⟨O, vn, vc, ret_int R.out.1.symm, by rw [R.out.2]; exact HH.out, Fr.refl _ _⟩
  · have OPN : Hid _ := h0
    cases hf : findN S.names s with
    | none =>
      have R : Hid (remE S s = 4 ∧ remS S s = opS S) := by show _ ∧ _; unfold remE remS; rw [if_neg h0, if_neg h0, hf]; exact ⟨rfl, rfl⟩
      have HF : Hid _ := hf
      clear h k h0 hf
      go_enter Try.func95, Try.ntmps95
      go_wp2_with (first
        | (go_at_call 119; refine (xop_some O B fb vn vk vc S m _ HH.out HK.out OPN.out).mono ?_; rintro e w1 ⟨rfl, X1, F1⟩
           have n1 : w1.cell? ⟨B, 0, none⟩ = some vn := cell_in X1.blk 0 _ rfl
           have HX1 : Hid (XRep w1 O B fb vn vk vc (opS S)) := X1
           have HF1 : Hid (Fr O O w w1) := F1
           clear X1 F1)
        | (go_at_call 122; refine (xfind_none O B fb vn vk vc (opS S) m s _ HX1.out HK.out.op hm HF.out).mono ?_; rintro e w2 ⟨rfl, hb⟩
           have HX2 : Hid (XRep w2 O B fb vn vk vc (opS S)) := HX1.out.below hb
           have HF2 : Hid (Fr O O w w2) := HF1.out.trans (Fr.below hb)
           clear hb))
      go_ret
      exact ⟨O, vn, vc, ret_int R.out.1.symm, by rw [R.out.2]; exact HX2.out, HF2.out⟩
    | some i =>
      have R : Hid (remE S s = 0 ∧ remS S s = chgS (opS S) (s, s, none)) := by show _ ∧ _; unfold remE remS; rw [if_neg h0, if_neg h0, hf]; exact ⟨rfl, rfl⟩
      have HF : Hid _ := hf
      clear h k h0 hf
      go_enter Try.func95, Try.ntmps95
      go_wp2_with (first
        | (go_at_call 119; refine (xop_some O B fb vn vk vc S m _ HH.out HK.out OPN.out).mono ?_; rintro e w1 ⟨rfl, X1, F1⟩
           have n1 : w1.cell? ⟨B, 0, none⟩ = some vn := cell_in X1.blk 0 _ rfl
           have HX1 : Hid (XRep w1 O B fb vn vk vc (opS S)) := X1
           have HF1 : Hid (Fr O O w w1) := F1
           clear X1 F1)
        | (go_at_call 122; refine (xfind_some O B fb vn vk vc (opS S) m s i _ HX1.out HK.out.op hm HF.out).mono ?_; rintro e w2 ⟨rfl, hb⟩
           have HX2 : Hid (XRep w2 O B fb vn vk vc (opS S)) := HX1.out.below hb
           have HF2 : Hid (Fr O O w w2) := HF1.out.trans (Fr.below hb)
           clear hb)
        | (go_at_call 123; refine (xturn_none O B fb vn vk vc (opS S) m s s _ HX2.out HK.out.op hm).mono ?_; rintro e w3 ⟨O3, vn3, vc3, rfl, X3, F3⟩
           have HX3 : Hid (XRep w3 O3 B fb vn3 vk vc3 (chgS (opS S) (s, s, none))) := X3
           have HF3 : Hid (Fr O O3 w w3) := HF2.out.trans F3
           clear X3 F3))
      go_ret
      exact ⟨O3, vn3, vc3, ret_int R.out.1.symm, by rw [R.out.2]; exact HX3.out, HF3.out⟩
set_option maxHeartbeats 2000000 in
set_option maxRecDepth 100000 in
theorem xren_any (O : Nat → Prop) (B : Nat) (fb : Nat → Nat) (vn vk vc : Value) (S : St) (m : Nat) (s b : ByteArray) (hbs : b.size ≤ maxLen) (w : World) (h : XRep w O B fb vn vk vc S) (k : S.Ok m) (hm : m < 2199023255552) :
    Calls Try.prog 93 #[.pointer (some ⟨B, 0, none⟩), .string s, .string b] w fun e w' => ∃ O' vn' vc', e = .returned (.int .i64 (renE S s b)) ∧ XRep w' O' B fb vn' vk vc' (renS S s b) ∧ Fr O O' w w' := by
  have HH : Hid (XRep w O B fb vn vk vc S) := h
  have HK : Hid (S.Ok m) := k
  by_cases h0 : S.left = 0
  · have R : Hid (renE S s b = 6 ∧ renS S s b = S) := by show _ ∧ _; unfold renE renS; rw [if_pos h0, if_pos h0]; exact ⟨rfl, rfl⟩
    have OPN : Hid _ := h0
    clear h k h0
    go_enter Try.func93, Try.ntmps93
    go_wp2_with (first | (go_at_call 119; refine (xop_none O B fb vn vk vc S _ HH.out OPN.out).mono ?_; rintro e w' ⟨rfl, hw'⟩; subst w'))
    go_ret
    exact ⟨O, vn, vc, ret_int R.out.1.symm, by rw [R.out.2]; exact HH.out, Fr.refl _ _⟩
  · have OPN : Hid _ := h0
    cases hf : findN S.names s with
    | none =>
      have R : Hid (renE S s b = 4 ∧ renS S s b = opS S) := by show _ ∧ _; unfold renE renS; rw [if_neg h0, if_neg h0, hf]; exact ⟨rfl, rfl⟩
      have HF : Hid _ := hf
      clear h k h0 hf
      go_enter Try.func93, Try.ntmps93
      go_wp2_with (first
        | (go_at_call 119; refine (xop_some O B fb vn vk vc S m _ HH.out HK.out OPN.out).mono ?_; rintro e w1 ⟨rfl, X1, F1⟩
           have n1 : w1.cell? ⟨B, 0, none⟩ = some vn := cell_in X1.blk 0 _ rfl
           have HX1 : Hid (XRep w1 O B fb vn vk vc (opS S)) := X1
           have HF1 : Hid (Fr O O w w1) := F1
           clear X1 F1)
        | (go_at_call 122; refine (xfind_none O B fb vn vk vc (opS S) m s _ HX1.out HK.out.op hm HF.out).mono ?_; rintro e w2 ⟨rfl, hb⟩
           have HX2 : Hid (XRep w2 O B fb vn vk vc (opS S)) := HX1.out.below hb
           have HF2 : Hid (Fr O O w w2) := HF1.out.trans (Fr.below hb)
           clear hb))
      go_ret
      exact ⟨O, vn, vc, ret_int R.out.1.symm, by rw [R.out.2]; exact HX2.out, HF2.out⟩
    | some i =>
      have HF : Hid _ := hf
      cases hb0 : isNm b
      · have R : Hid (renE S s b = 4 ∧ renS S s b = opS S) := by show _ ∧ _; unfold renE renS; rw [if_neg h0, if_neg h0, hf, hb0]; exact ⟨rfl, rfl⟩
        clear h k h0 hf
        go_enter Try.func93, Try.ntmps93
        go_wp2_with (first
          | (go_at_call 119; refine (xop_some O B fb vn vk vc S m _ HH.out HK.out OPN.out).mono ?_; rintro e w1 ⟨rfl, X1, F1⟩
             have n1 : w1.cell? ⟨B, 0, none⟩ = some vn := cell_in X1.blk 0 _ rfl
             have HX1 : Hid (XRep w1 O B fb vn vk vc (opS S)) := X1
             have HF1 : Hid (Fr O O w w1) := F1
             clear X1 F1)
          | (go_at_call 122; refine (xfind_some O B fb vn vk vc (opS S) m s i _ HX1.out HK.out.op hm HF.out).mono ?_; rintro e w2 ⟨rfl, hb⟩
             have HX2 : Hid (XRep w2 O B fb vn vk vc (opS S)) := HX1.out.below hb
             have HF2 : Hid (Fr O O w w2) := HF1.out.trans (Fr.below hb)
             clear hb)
          | (go_at_call 120; refine (named_any b _ hbs).mono ?_; rintro e w' ⟨rfl, hw'⟩; subst w'; rw [hb0]))
        go_ret
        exact ⟨O, vn, vc, ret_int R.out.1.symm, by rw [R.out.2]; exact HX2.out, HF2.out⟩
      · have R : Hid (renE S s b = 0 ∧ renS S s b = chgS (opS S) (s, b, some i)) := by show _ ∧ _; unfold renE renS; rw [if_neg h0, if_neg h0, hf, hb0]; exact ⟨rfl, rfl⟩
        clear h k h0 hf
        go_enter Try.func93, Try.ntmps93
        go_wp2_with (first
          | (go_at_call 119; refine (xop_some O B fb vn vk vc S m _ HH.out HK.out OPN.out).mono ?_; rintro e w1 ⟨rfl, X1, F1⟩
             have n1 : w1.cell? ⟨B, 0, none⟩ = some vn := cell_in X1.blk 0 _ rfl
             have HX1 : Hid (XRep w1 O B fb vn vk vc (opS S)) := X1
             have HF1 : Hid (Fr O O w w1) := F1
             clear X1 F1)
          | (go_at_call 122; refine (xfind_some O B fb vn vk vc (opS S) m s i _ HX1.out HK.out.op hm HF.out).mono ?_; rintro e w2 ⟨rfl, hb⟩
             have HX2 : Hid (XRep w2 O B fb vn vk vc (opS S)) := HX1.out.below hb
             have HF2 : Hid (Fr O O w w2) := HF1.out.trans (Fr.below hb)
             clear hb)
          | (go_at_call 120; refine (named_any b _ hbs).mono ?_; rintro e w' ⟨rfl, hw'⟩; subst w'; rw [hb0])
          | (go_at_call 123; refine (xturn_some O B fb vn vk vc (opS S) m s b i _ HX2.out HK.out.op hm).mono ?_; rintro e w3 ⟨O3, vn3, vc3, rfl, X3, F3⟩
             have HX3 : Hid (XRep w3 O3 B fb vn3 vk vc3 (chgS (opS S) (s, b, some i))) := X3
             have HF3 : Hid (Fr O O3 w w3) := HF2.out.trans F3
             clear X3 F3))
        go_ret
        exact ⟨O3, vn3, vc3, ret_int R.out.1.symm, by rw [R.out.2]; exact HX3.out, HF3.out⟩
end Go.Proofs.Ytnkgfoabadjboaa
