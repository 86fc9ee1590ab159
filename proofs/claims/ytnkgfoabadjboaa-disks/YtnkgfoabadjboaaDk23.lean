/-
  Remove, Rename and SyncNames, by the document. Conditions: the disk stands for a plain state; fewer than 2^41 entries; lengths are ints.
-/
import Derived.Test.YtnkgfoabadjboaaDk22
namespace Go.Proofs.Ytnkgfoabadjboaa
open Go.RowKit
set_option linter.unusedVariables false
set_option linter.unusedSimpArgs false
theorem rturn_some (O : Nat → Prop) (D : Nat) (vN vK vn vs vc : Value) (S : St) (m : Nat) (g n : ByteArray) (i : Nat) (w : World) (h : RRep w O D vN vK vn vs vc S) (k : S.Ok m) (hm : m < 2199023255552) :
    Calls Try.prog 127 #[.pointer (some ⟨D, 0, none⟩), .agg #[.string g, .string n, .int .i64 (i : Int)]] w fun e w' => ∃ O' vn' vc', e = .returned (.tuple #[]) ∧ RRep w' O' D vN vK vn' vs vc' (chgS S (g, n, some i)) ∧ Fr O O' w w' := rturn_any O D vN vK vn vs vc S m g n (some i) w h k hm
theorem rturn_none (O : Nat → Prop) (D : Nat) (vN vK vn vs vc : Value) (S : St) (m : Nat) (g n : ByteArray) (w : World) (h : RRep w O D vN vK vn vs vc S) (k : S.Ok m) (hm : m < 2199023255552) :
    Calls Try.prog 127 #[.pointer (some ⟨D, 0, none⟩), .agg #[.string g, .string n, .int .i64 (-1)]] w fun e w' => ∃ O' vn' vc', e = .returned (.tuple #[]) ∧ RRep w' O' D vN vK vn' vs vc' (chgS S (g, n, none)) ∧ Fr O O' w w' := rturn_any O D vN vK vn vs vc S m g n none w h k hm
theorem rfind_none (O : Nat → Prop) (D : Nat) (vN vK vn vs vc : Value) (S : St) (m : Nat) (s : ByteArray) (w : World) (h : RRep w O D vN vK vn vs vc S) (k : S.Ok m) (hm : m < 2199023255552) (hf : findN S.names s = none) :
    Calls Try.prog 126 #[vn, .string s] w fun e w' => e = .returned (.int .i64 (-1)) ∧ w' = w := by
  have := rfind_any vn S.names s w 0 h.names (by have := k.ln; omega)
  rw [hf] at this
  exact this
theorem rfind_some (O : Nat → Prop) (D : Nat) (vN vK vn vs vc : Value) (S : St) (m : Nat) (s : ByteArray) (i : Nat) (w : World) (h : RRep w O D vN vK vn vs vc S) (k : S.Ok m) (hm : m < 2199023255552) (hf : findN S.names s = some i) :
    Calls Try.prog 126 #[vn, .string s] w fun e w' => e = .returned (.int .i64 (i : Int)) ∧ w' = w := by
  have := rfind_any vn S.names s w 0 h.names (by have := k.ln; omega)
  rw [hf] at this
  exact this
set_option maxHeartbeats 2000000 in
set_option maxRecDepth 100000 in
theorem rrem_any (O : Nat → Prop) (D : Nat) (vN vK vn vs vc : Value) (S : St) (m : Nat) (s : ByteArray) (w : World) (h : RRep w O D vN vK vn vs vc S) (k : S.Ok m) (hm : m < 2199023255552) :
    Calls Try.prog 96 #[.pointer (some ⟨D, 0, none⟩), .string s] w fun e w' => ∃ O' vn' vc', e = .returned (.int .i64 (remE S s)) ∧ RRep w' O' D vN vK vn' vs vc' (remS S s) ∧ Fr O O' w w' := by
  have HH : Hid (RRep w O D vN vK vn vs vc S) := h
  have HK : Hid (S.Ok m) := k
  by_cases h0 : S.left = 0
  · have R : Hid (remE S s = 6 ∧ remS S s = S) := by show _ ∧ _; unfold remE remS; rw [if_pos h0, if_pos h0]; exact ⟨rfl, rfl⟩
    have OPN : Hid _ := h0
    clear h k h0
    go_enter Try.func96, Try.ntmps96
    go_wp2_with (first | (go_at_call 124; refine (rmay_none O D vN vK vn vs vc S _ HH.out OPN.out).mono ?_; rintro e w' ⟨rfl, hw'⟩; subst w'))
    go_ret
    exact ⟨O, vn, vc, ret_int R.out.1.symm, by rw [R.out.2]; exact HH.out, Fr.refl _ _⟩
  · have OPN : Hid _ := h0
    cases hf : findN S.names s with
    | none =>
      have R : Hid (remE S s = 4 ∧ remS S s = opS S) := by show _ ∧ _; unfold remE remS; rw [if_neg h0, if_neg h0, hf]; exact ⟨rfl, rfl⟩
      have HF : Hid _ := hf
      clear h k h0 hf
      go_enter Try.func96, Try.ntmps96
      go_wp2_with (first
        | (go_at_call 124; refine (rmay_some O D vN vK vn vs vc S m _ HH.out HK.out OPN.out).mono ?_; rintro e w1 ⟨rfl, X1, F1⟩
           have n1 : w1.cell? ⟨D, 2, none⟩ = some vn := cell_in X1.blk 2 _ rfl
           have HX1 : Hid (RRep w1 O D vN vK vn vs vc (opS S)) := X1
           have HF1 : Hid (Fr O O w w1) := F1
           clear X1 F1)
        | (go_at_call 126; refine (rfind_none O D vN vK vn vs vc (opS S) m s _ HX1.out HK.out.op hm HF.out).mono ?_; rintro e w' ⟨rfl, hw'⟩; subst w'))
      go_ret
      exact ⟨O, vn, vc, ret_int R.out.1.symm, by rw [R.out.2]; exact HX1.out, HF1.out⟩
    | some i =>
      have R : Hid (remE S s = 0 ∧ remS S s = chgS (opS S) (s, s, none)) := by show _ ∧ _; unfold remE remS; rw [if_neg h0, if_neg h0, hf]; exact ⟨rfl, rfl⟩
      have HF : Hid _ := hf
      clear h k h0 hf
      go_enter Try.func96, Try.ntmps96
      go_wp2_with (first
        | (go_at_call 124; refine (rmay_some O D vN vK vn vs vc S m _ HH.out HK.out OPN.out).mono ?_; rintro e w1 ⟨rfl, X1, F1⟩
           have n1 : w1.cell? ⟨D, 2, none⟩ = some vn := cell_in X1.blk 2 _ rfl
           have HX1 : Hid (RRep w1 O D vN vK vn vs vc (opS S)) := X1
           have HF1 : Hid (Fr O O w w1) := F1
           clear X1 F1)
        | (go_at_call 126; refine (rfind_some O D vN vK vn vs vc (opS S) m s i _ HX1.out HK.out.op hm HF.out).mono ?_; rintro e w' ⟨rfl, hw'⟩; subst w')
        | (go_at_call 127; refine (rturn_none O D vN vK vn vs vc (opS S) m s s _ HX1.out HK.out.op hm).mono ?_; rintro e w3 ⟨O3, vn3, vc3, rfl, X3, F3⟩
           have HX3 : Hid (RRep w3 O3 D vN vK vn3 vs vc3 (chgS (opS S) (s, s, none))) := X3
           have HF3 : Hid (Fr O O3 w w3) := HF1.out.trans F3
           clear X3 F3))
      go_ret
      exact ⟨O3, vn3, vc3, ret_int R.out.1.symm, by rw [R.out.2]; exact HX3.out, HF3.out⟩
set_option maxHeartbeats 2000000 in
set_option maxRecDepth 100000 in
theorem rren_any (O : Nat → Prop) (D : Nat) (vN vK vn vs vc : Value) (S : St) (m : Nat) (s b : ByteArray) (hbs : b.size ≤ maxLen) (w : World) (h : RRep w O D vN vK vn vs vc S) (k : S.Ok m) (hm : m < 2199023255552) :
    Calls Try.prog 94 #[.pointer (some ⟨D, 0, none⟩), .string s, .string b] w fun e w' => ∃ O' vn' vc', e = .returned (.int .i64 (renE S s b)) ∧ RRep w' O' D vN vK vn' vs vc' (renS S s b) ∧ Fr O O' w w' := by
  have HH : Hid (RRep w O D vN vK vn vs vc S) := h
  have HK : Hid (S.Ok m) := k
  by_cases h0 : S.left = 0
  · have R : Hid (renE S s b = 6 ∧ renS S s b = S) := by show _ ∧ _; unfold renE renS; rw [if_pos h0, if_pos h0]; exact ⟨rfl, rfl⟩
    have OPN : Hid _ := h0
    clear h k h0
    go_enter Try.func94, Try.ntmps94
    go_wp2_with (first | (go_at_call 124; refine (rmay_none O D vN vK vn vs vc S _ HH.out OPN.out).mono ?_; rintro e w' ⟨rfl, hw'⟩; subst w'))
    go_ret
    exact ⟨O, vn, vc, ret_int R.out.1.symm, by rw [R.out.2]; exact HH.out, Fr.refl _ _⟩
  · have OPN : Hid _ := h0
    cases hf : findN S.names s with
    | none =>
      have R : Hid (renE S s b = 4 ∧ renS S s b = opS S) := by show _ ∧ _; unfold renE renS; rw [if_neg h0, if_neg h0, hf]; exact ⟨rfl, rfl⟩
      have HF : Hid _ := hf
      clear h k h0 hf
      go_enter Try.func94, Try.ntmps94
      go_wp2_with (first
        | (go_at_call 124; refine (rmay_some O D vN vK vn vs vc S m _ HH.out HK.out OPN.out).mono ?_; rintro e w1 ⟨rfl, X1, F1⟩
           have n1 : w1.cell? ⟨D, 2, none⟩ = some vn := cell_in X1.blk 2 _ rfl
           have HX1 : Hid (RRep w1 O D vN vK vn vs vc (opS S)) := X1
           have HF1 : Hid (Fr O O w w1) := F1
           clear X1 F1)
        | (go_at_call 126; refine (rfind_none O D vN vK vn vs vc (opS S) m s _ HX1.out HK.out.op hm HF.out).mono ?_; rintro e w' ⟨rfl, hw'⟩; subst w')
        | (go_at_call 125; refine (isName_any b _ hbs).mono ?_; rintro e w' ⟨rfl, hw'⟩; subst w'))
      go_ret
      exact ⟨O, vn, vc, ret_int R.out.1.symm, by rw [R.out.2]; exact HX1.out, HF1.out⟩
    | some i =>
      have HF : Hid _ := hf
      cases hb0 : isNm b
      · have R : Hid (renE S s b = 4 ∧ renS S s b = opS S) := by show _ ∧ _; unfold renE renS; rw [if_neg h0, if_neg h0, hf, hb0]; exact ⟨rfl, rfl⟩
        clear h k h0 hf
        go_enter Try.func94, Try.ntmps94
        go_wp2_with (first
          | (go_at_call 124; refine (rmay_some O D vN vK vn vs vc S m _ HH.out HK.out OPN.out).mono ?_; rintro e w1 ⟨rfl, X1, F1⟩
             have n1 : w1.cell? ⟨D, 2, none⟩ = some vn := cell_in X1.blk 2 _ rfl
             have HX1 : Hid (RRep w1 O D vN vK vn vs vc (opS S)) := X1
             have HF1 : Hid (Fr O O w w1) := F1
             clear X1 F1)
          | (go_at_call 126; refine (rfind_some O D vN vK vn vs vc (opS S) m s i _ HX1.out HK.out.op hm HF.out).mono ?_; rintro e w' ⟨rfl, hw'⟩; subst w')
          | (go_at_call 125; refine (isName_any b _ hbs).mono ?_; rintro e w' ⟨rfl, hw'⟩; subst w'; rw [hb0]))
        go_ret
        exact ⟨O, vn, vc, ret_int R.out.1.symm, by rw [R.out.2]; exact HX1.out, HF1.out⟩
      · have R : Hid (renE S s b = 0 ∧ renS S s b = chgS (opS S) (s, b, some i)) := by show _ ∧ _; unfold renE renS; rw [if_neg h0, if_neg h0, hf, hb0]; exact ⟨rfl, rfl⟩
        clear h k h0 hf
        go_enter Try.func94, Try.ntmps94
        go_wp2_with (first
          | (go_at_call 124; refine (rmay_some O D vN vK vn vs vc S m _ HH.out HK.out OPN.out).mono ?_; rintro e w1 ⟨rfl, X1, F1⟩
             have n1 : w1.cell? ⟨D, 2, none⟩ = some vn := cell_in X1.blk 2 _ rfl
             have HX1 : Hid (RRep w1 O D vN vK vn vs vc (opS S)) := X1
             have HF1 : Hid (Fr O O w w1) := F1
             clear X1 F1)
          | (go_at_call 126; refine (rfind_some O D vN vK vn vs vc (opS S) m s i _ HX1.out HK.out.op hm HF.out).mono ?_; rintro e w' ⟨rfl, hw'⟩; subst w')
          | (go_at_call 125; refine (isName_any b _ hbs).mono ?_; rintro e w' ⟨rfl, hw'⟩; subst w'; rw [hb0])
          | (go_at_call 127; refine (rturn_some O D vN vK vn vs vc (opS S) m s b i _ HX1.out HK.out.op hm).mono ?_; rintro e w3 ⟨O3, vn3, vc3, rfl, X3, F3⟩
             have HX3 : Hid (RRep w3 O3 D vN vK vn3 vs vc3 (chgS (opS S) (s, b, some i))) := X3
             have HF3 : Hid (Fr O O3 w w3) := HF1.out.trans F3
             clear X3 F3))
        go_ret
        exact ⟨O3, vn3, vc3, ret_int R.out.1.symm, by rw [R.out.2]; exact HX3.out, HF3.out⟩
set_option maxHeartbeats 2000000 in
set_option maxRecDepth 100000 in
theorem rsn_any (O : Nat → Prop) (D : Nat) (vN vK vn vs vc : Value) (S : St) (m : Nat) (w : World) (h : RRep w O D vN vK vn vs vc S) (k : S.Ok m) :
    Calls Try.prog 98 #[.pointer (some ⟨D, 0, none⟩)] w fun e w' => ∃ vs' vc', e = .returned (.int .i64 (snE S)) ∧ RRep w' O D vN vK vn vs' vc' (snS S) ∧ Fr O O w w' := by
  have HH : Hid (RRep w O D vN vK vn vs vc S) := h
  have HK : Hid (S.Ok m) := k
  obtain ⟨na, nl, nc, hna⟩ := slice_of h.names
  by_cases h0 : S.left = 0
  · have R : Hid (snE S = 6 ∧ snS S = S) := by show _ ∧ _; unfold snE snS; rw [if_pos h0, if_pos h0]; exact ⟨rfl, rfl⟩
    have OPN : Hid _ := h0
    clear h k h0 hna
    go_enter Try.func98, Try.ntmps98
    go_wp2_with (first | (go_at_call 124; refine (rmay_none O D vN vK vn vs vc S _ HH.out OPN.out).mono ?_; rintro e w' ⟨rfl, hw'⟩; subst w'))
    go_ret
    exact ⟨vs, vc, ret_int R.out.1.symm, by rw [R.out.2]; exact HH.out, Fr.refl _ _⟩
  · have OPN : Hid _ := h0
    have R : Hid (snE S = 0 ∧ snS S = { opS S with safe := S.names, chg := [] }) := by show _ ∧ _; unfold snE snS; rw [if_neg h0, if_neg h0]; exact ⟨rfl, rfl⟩
    subst hna
    clear h k h0
    go_enter Try.func98, Try.ntmps98
    go_wp2_with (first
      | (go_at_call 124; refine (rmay_some O D vN vK (.slice na nl nc) vs vc S m _ HH.out HK.out OPN.out).mono ?_; rintro e w1 ⟨rfl, X1, F1⟩
         have n0 : w1.cell? ⟨D, 2, none⟩ = some (.slice na nl nc) := cell_in X1.blk 2 _ rfl
         have n1 : w1.cell? ⟨D, 3, none⟩ = some vs := cell_in X1.blk 3 _ rfl
         have n2 : w1.cell? ⟨D, 4, none⟩ = some vc := cell_in X1.blk 4 _ rfl
         have f1 := unfrozen_in X1.blk 3
         have f2 := unfrozen_in X1.blk 4
         have HX1 : Hid (RRep w1 O D vN vK (.slice na nl nc) vs vc (opS S)) := X1
         have HF1 : Hid (Fr O O w w1) := F1
         clear X1 F1))
    go_ret
    refine ⟨.slice na nl nc, .slice none 0 0, ret_int R.out.1.symm, ?_, (HF1.out.trans (fr_at HX1.out.oD _ _)).trans (fr_at HX1.out.oD _ _)⟩
    rw [R.out.2]
    refine HX1.out.put (by simp) ?_ ?_ ⟨HX1.out.now, HX1.out.oN⟩ ⟨HX1.out.kept, HX1.out.oK⟩ ⟨HX1.out.names, HX1.out.on⟩ ⟨HX1.out.names, HX1.out.on⟩ ⟨World.ownsRow_nil _ _ _ _, fun b hb => by simp [Value.ownBlock] at hb⟩ HX1.out.nk
    · rw [heap_set _ D 4 _ _ _ _ (heap_set w1 D 3 _ _ _ _ HX1.out.blk)]; rfl
    · intro q hq
      rw [Below.heap_setCell _ ⟨D, 4, none⟩ _ q hq, Below.heap_setCell _ ⟨D, 3, none⟩ _ q hq]
end Go.Proofs.Ytnkgfoabadjboaa
