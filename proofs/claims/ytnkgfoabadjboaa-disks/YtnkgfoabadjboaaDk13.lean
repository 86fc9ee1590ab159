/-
  SyncNames, Read, Limit and Bend of the program's disk. Conditions: the disk stands for a plain state; fewer than 2^41 entries; the number that bends is below 2^32.
-/
import Derived.Test.YtnkgfoabadjboaaDk12
namespace Go.Proofs.Ytnkgfoabadjboaa
open Go.RowKit
set_option linter.unusedVariables false
set_option linter.unusedSimpArgs false
def snE (S : St) : Int := if S.left = 0 then 6 else 0
def snS (S : St) : St := if S.left = 0 then S else { opS S with safe := S.names, chg := [] }
set_option maxHeartbeats 2000000 in
set_option maxRecDepth 100000 in
theorem xsn_any (O : Nat → Prop) (B : Nat) (fb : Nat → Nat) (vn vk vc : Value) (S : St) (m : Nat) (w : World) (h : XRep w O B fb vn vk vc S) (k : S.Ok m) :
    Calls Try.prog 97 #[.pointer (some ⟨B, 0, none⟩)] w fun e w' => ∃ vk' vc', e = .returned (.int .i64 (snE S)) ∧ XRep w' O B fb vn vk' vc' (snS S) ∧ Fr O O w w' := by
  have HH : Hid (XRep w O B fb vn vk vc S) := h
  have HK : Hid (S.Ok m) := k
  obtain ⟨na, nl, nc, hna⟩ := slice_of h.names
  by_cases h0 : S.left = 0
  · have R : Hid (snE S = 6 ∧ snS S = S) := by show _ ∧ _; unfold snE snS; rw [if_pos h0, if_pos h0]; exact ⟨rfl, rfl⟩
    have OPN : Hid _ := h0
    clear h k h0 hna
    go_enter Try.func97, Try.ntmps97
    go_wp2_with (first | (go_at_call 119; refine (xop_none O B fb vn vk vc S _ HH.out OPN.out).mono ?_; rintro e w' ⟨rfl, hw'⟩; subst w'))
    go_ret
    exact ⟨vk, vc, ret_int R.out.1.symm, by rw [R.out.2]; exact HH.out, Fr.refl _ _⟩
  · have OPN : Hid _ := h0
    have R : Hid (snE S = 0 ∧ snS S = { opS S with safe := S.names, chg := [] }) := by show _ ∧ _; unfold snE snS; rw [if_neg h0, if_neg h0]; exact ⟨rfl, rfl⟩
    subst hna
    clear h k h0
    go_enter Try.func97, Try.ntmps97
    go_wp2_with (first
      | (go_at_call 119; refine (xop_some O B fb (.slice na nl nc) vk vc S m _ HH.out HK.out OPN.out).mono ?_; rintro e w1 ⟨rfl, X1, F1⟩
         have n0 : w1.cell? ⟨B, 0, none⟩ = some (.slice na nl nc) := cell_in X1.blk 0 _ rfl
         have n1 : w1.cell? ⟨B, 1, none⟩ = some vk := cell_in X1.blk 1 _ rfl
         have n2 : w1.cell? ⟨B, 2, none⟩ = some vc := cell_in X1.blk 2 _ rfl
         have f1 := unfrozen_in X1.blk 1
         have f2 := unfrozen_in X1.blk 2
         have HX1 : Hid (XRep w1 O B fb (.slice na nl nc) vk vc (opS S)) := X1
         have HF1 : Hid (Fr O O w w1) := F1
         clear X1 F1))
    go_ret
    refine ⟨.slice na nl nc, .slice none 0 0, ret_int R.out.1.symm, ?_, (HF1.out.trans (fr_at HX1.out.oB _ _)).trans (fr_at HX1.out.oB _ _)⟩
    rw [R.out.2]
    refine HX1.out.put (by simp) ?_ ?_ ⟨HX1.out.names, HX1.out.on⟩ ⟨HX1.out.names, HX1.out.on⟩ ⟨World.ownsRow_nil _ _ _ _, fun b hb => by simp [Value.ownBlock] at hb⟩
    · rw [heap_set _ B 2 _ _ _ _ (heap_set w1 B 1 _ _ _ _ HX1.out.blk)]; rfl
    · intro q hq
      rw [Below.heap_setCell _ ⟨B, 2, none⟩ _ q hq, Below.heap_setCell _ ⟨B, 1, none⟩ _ q hq]
def rdE (S : St) (s : ByteArray) : Int := if S.left = 0 then 6 else match findN S.names s with | none => 4 | some _ => 0
def rdT (S : St) (s : ByteArray) : ByteArray := if S.left = 0 then ByteArray.empty else match findN S.names s with | none => ByteArray.empty | some i => nowOf S i
theorem ret_st {a b : ByteArray} {c d : Int} (h : a = b) (h' : c = d) : Ending.returned (.tuple #[.string a, .int .i64 c]) = .returned (.tuple #[.string b, .int .i64 d]) := by rw [h, h']
set_option maxHeartbeats 2000000 in
set_option maxRecDepth 100000 in
theorem xread_any (O : Nat → Prop) (B : Nat) (fb : Nat → Nat) (vn vk vc : Value) (S : St) (m : Nat) (s : ByteArray) (w : World) (h : XRep w O B fb vn vk vc S) (k : S.Ok m) (hm : m < 2199023255552) :
    Calls Try.prog 89 #[.pointer (some ⟨B, 0, none⟩), .string s] w fun e w' => e = .returned (.tuple #[.string (rdT S s), .int .i64 (rdE S s)]) ∧ Below w.heap.size w w' := by
  have HH : Hid (XRep w O B fb vn vk vc S) := h
  have HK : Hid (S.Ok m) := k
  have c0 : w.cell? ⟨B, 0, none⟩ = some vn := cell_in h.blk 0 _ rfl
  have c3 : w.cell? ⟨B, 3, none⟩ = some (.int .i64 S.left) := cell_in h.blk 3 _ rfl
  obtain ⟨l, hl⟩ : ∃ l, l = S.left := ⟨_, rfl⟩
  rw [← hl] at c3
  cases h0 : (l == 0)
  · have h0' : ¬ S.left = 0 := by rw [← hl]; simpa using h0
    cases hf : findN S.names s with
    | none =>
      have R : Hid (rdT S s = ByteArray.empty ∧ rdE S s = 4) := by show _ ∧ _; unfold rdT rdE; rw [if_neg h0', if_neg h0', hf]; exact ⟨rfl, rfl⟩
      have HF : Hid _ := hf
      clear h k hf hl h0'
      go_enter Try.func89, Try.ntmps89
      go_wp2_with (first
        | (go_at_call 122; refine (xfind_none O B fb vn vk vc S m s _ HH.out HK.out hm HF.out).mono ?_; rintro e w2 ⟨rfl, hb⟩; have HB : Hid _ := hb; clear hb))
      go_ret2
      exact ⟨ret_st R.out.1.symm R.out.2.symm, HB.out⟩
    | some i =>
      have R : Hid (rdT S s = nowOf S i ∧ rdE S s = 0) := by show _ ∧ _; unfold rdT rdE; rw [if_neg h0', if_neg h0', hf]; exact ⟨rfl, rfl⟩
      have HI : Hid _ := find_lt k hf
      have HF : Hid _ := hf
      clear h k hf hl h0'
      go_enter Try.func89, Try.ntmps89
      go_wp2_with (first
        | (go_at_call 122; refine (xfind_some O B fb vn vk vc S m s i _ HH.out HK.out hm HF.out).mono ?_; rintro e w2 ⟨rfl, hb⟩
           have a0 : w2.cell? ⟨fb i, 0, none⟩ = some (.string (nowOf S i)) := cell_in ((HH.out.below hb).files i HI.out) 0 _ rfl
           have HB : Hid _ := hb
           clear hb))
      go_ret2
      exact ⟨ret_st R.out.1.symm R.out.2.symm, HB.out⟩
  · have h0' : S.left = 0 := by rw [← hl]; simpa using h0
    have R : Hid (rdT S s = ByteArray.empty ∧ rdE S s = 6) := by show _ ∧ _; unfold rdT rdE; rw [if_pos h0', if_pos h0']; exact ⟨rfl, rfl⟩
    clear h k hl h0'
    go_enter Try.func89, Try.ntmps89
    go_wp2
    go_ret2
    exact ⟨ret_st R.out.1.symm R.out.2.symm, Below.refl _ _⟩
def limS (S : St) (a b : Int) : St := { S with left := bnd a, room := bnd b }
theorem xlimit_any (O : Nat → Prop) (B : Nat) (fb : Nat → Nat) (vn vk vc : Value) (S : St) (a b : Int) (w : World) (h : XRep w O B fb vn vk vc S) :
    Calls Try.prog 100 #[.pointer (some ⟨B, 0, none⟩), .int .i64 a, .int .i64 b] w fun e w' => e = .returned (.tuple #[]) ∧ XRep w' O B fb vn vk vc (limS S a b) ∧ Fr O O w w' := by
  refine (limit_any B a b (.int .i64 S.left) (.int .i64 S.room) w (cell_in h.blk 3 _ rfl) (cell_in h.blk 4 _ rfl) (unfrozen_in h.blk 3) (unfrozen_in h.blk 4)).mono ?_
  rintro e w' ⟨rfl, rfl⟩
  exact ⟨rfl, (h.left (bnd a)).room (bnd b), (fr_at h.oB _ _).trans (fr_at h.oB _ _)⟩
def bendS (S : St) (s : ByteArray) (a v : Int) : St := match findN S.names s with | none => S | some i => { S with now := S.now.set i (bentB (nowOf S i) a v), kept := S.kept.set i (bentB (keptOf S i) a v) }
theorem now_lt {S : St} {m : Nat} (k : S.Ok m) {i : Nat} (hi : i < S.now.length) : (nowOf S i).size < 4611686018427387904 := by
  refine k.tx _ ?_
  unfold nowOf
  rw [List.getD_eq_getElem?_getD, List.getElem?_eq_getElem hi]
  exact List.getElem_mem hi
theorem kept_lt {S : St} {m : Nat} (k : S.Ok m) {i : Nat} (hi : i < S.now.length) : (keptOf S i).size < 4611686018427387904 := by
  refine k.tx2 _ ?_
  unfold keptOf
  have hi' : i < S.kept.length := by rw [k.len]; exact hi
  rw [List.getD_eq_getElem?_getD, List.getElem?_eq_getElem hi']
  exact List.getElem_mem hi'
set_option maxHeartbeats 2000000 in
set_option maxRecDepth 100000 in
theorem xbend_any (O : Nat → Prop) (B : Nat) (fb : Nat → Nat) (vn vk vc : Value) (S : St) (m : Nat) (s : ByteArray) (a v : Int) (w : World) (h : XRep w O B fb vn vk vc S) (k : S.Ok m) (hm : m < 2199023255552) (hv0 : 0 ≤ v) (hv1 : v < 4294967296) :
    Calls Try.prog 104 #[.pointer (some ⟨B, 0, none⟩), .string s, .int .i64 a, .int .u32 v] w fun e w' => e = .returned (.tuple #[]) ∧ XRep w' O B fb vn vk vc (bendS S s a v) ∧ Fr O O w w' := by
  have HH : Hid (XRep w O B fb vn vk vc S) := h
  have HK : Hid (S.Ok m) := k
  have c0 : w.cell? ⟨B, 0, none⟩ = some vn := cell_in h.blk 0 _ rfl
  cases hf : findN S.names s with
  | none =>
    have R : Hid (bendS S s a v = S) := by show _ = _; unfold bendS; rw [hf]
    have HF : Hid _ := hf
    clear h k hf
    go_enter Try.func104, Try.ntmps104
    go_wp2_with (first
      | (go_at_call 122; refine (xfind_none O B fb vn vk vc S m s _ HH.out HK.out hm HF.out).mono ?_; rintro e w2 ⟨rfl, hb⟩; have HB : Hid _ := hb; clear hb))
    refine bodyPost_ret (results_none rfl _ _ _) rfl ?_
    exact ⟨rfl, by rw [R.out]; exact HH.out.below HB.out, Fr.below HB.out⟩
  | some i =>
    have hi := find_lt k hf
    have R : Hid (bendS S s a v = { S with now := S.now.set i (bentB (nowOf S i) a v), kept := S.kept.set i (bentB (keptOf S i) a v) }) := by show _ = _; unfold bendS; rw [hf]
    have HI : Hid _ := hi
    have HF : Hid _ := hf
    have B1 : Hid (∀ w, Calls Try.prog 135 #[.string (nowOf S i), .int .i64 a, .int .u32 v] w fun e w' => e = .returned (.string (bentB (nowOf S i) a v)) ∧ Below w.heap.size w w') := fun w => bent_any _ a v w (now_lt k hi) hv0 hv1
    have B2 : Hid (∀ w, Calls Try.prog 135 #[.string (keptOf S i), .int .i64 a, .int .u32 v] w fun e w' => e = .returned (.string (bentB (keptOf S i) a v)) ∧ Below w.heap.size w w') := fun w => bent_any _ a v w (kept_lt k hi) hv0 hv1
    obtain ⟨x, hx⟩ : ∃ x, x = nowOf S i := ⟨_, rfl⟩
    obtain ⟨y, hy⟩ : ∃ y, y = keptOf S i := ⟨_, rfl⟩
    rw [← hx] at B1 R
    rw [← hy] at B2 R
    obtain ⟨x', hx'⟩ : ∃ x', x' = bentB x a v := ⟨_, rfl⟩
    obtain ⟨y', hy'⟩ : ∃ y', y' = bentB y a v := ⟨_, rfl⟩
    rw [← hx'] at B1 R
    rw [← hy'] at B2 R
    have FX : Hid (∀ w', XRep w' O B fb vn vk vc S → w'.heap[fb i]? = some (.cells #[.string x, .string y] 122 (0, 0))) := fun w' hh => by rw [hx, hy]; exact hh.files i hi
    have FS : Hid (∀ w', XRep w' O B fb vn vk vc { S with now := S.now.set i x' } → w'.heap[fb i]? = some (.cells #[.string x', .string y] 122 (0, 0))) := fun w' hh => by
      have := hh.files i (by simpa using hi)
      rw [hy]
      unfold file at this
      simpa [List.getD_eq_getElem?_getD, List.getElem?_set, hi, keptOf] using this
    have KS : Hid (S.kept = S.kept.set i y) := by show _ = _; rw [hy]; exact (set_same S.kept i (by rw [k.len]; exact hi)).symm
    clear h k hf hi hx hy hx' hy'
    go_enter Try.func104, Try.ntmps104
    go_upto_region 2 with (first
      | (go_at_call 122; refine (xfind_some O B fb vn vk vc S m s i _ HH.out HK.out hm HF.out).mono ?_; rintro e w2 ⟨rfl, hb⟩
         have HX2 : Hid (XRep w2 O B fb vn vk vc S) := HH.out.below hb
         have HF2 : Hid (Fr O O w w2) := Fr.below hb
         have a0 : w2.cell? ⟨fb i, 0, none⟩ = some (.string x) := cell_in (FX.out w2 HX2.out) 0 _ rfl
         clear hb))
    go_upto_region 3 with (first
      | (go_at_call 135; refine (B1.out _).mono ?_; rintro e w3 ⟨rfl, hb⟩
         have HX3 : Hid (XRep w3 O B fb vn vk vc S) := HX2.out.below hb
         have HF3 : Hid (Fr O O w w3) := HF2.out.trans (Fr.below hb)
         have b0 : w3.cell? ⟨fb i, 0, none⟩ = some (.string x) := cell_in (FX.out w3 HX3.out) 0 _ rfl
         have f0 := unfrozen_in (FX.out w3 HX3.out) 0
         clear hb))
    obtain ⟨V, hV⟩ : ∃ V, w3.setCell ⟨fb i, 0, none⟩ (.string x') = V := ⟨_, rfl⟩
    have XV : XRep V O B fb vn vk vc { S with now := S.now.set i x' } := by
      rw [← hV]
      have := HX3.out.putFile (i := i) (a := x') (b := y) HK.out.len HI.out (by simp) (by rw [heap_set w3 (fb i) 0 _ _ _ _ (FX.out w3 HX3.out)]; rfl) (fun q hq => Below.heap_setCell w3 ⟨fb i, 0, none⟩ _ q hq)
      rw [← KS.out] at this
      exact this
    have FV : Fr O O w V := by rw [← hV]; exact HF3.out.trans (fr_at (HX3.out.ofl i HI.out) _ _)
    have HXV : Hid (XRep V O B fb vn vk vc { S with now := S.now.set i x' }) := XV
    have HFV : Hid (Fr O O w V) := FV
    rw [hV]
    have d1 : V.cell? ⟨fb i, 1, none⟩ = some (.string y) := cell_in (FS.out V XV) 1 _ rfl
    clear hV XV FV a0 b0 f0
    go_wp2_with (first
      | (go_at_call 135; refine (B2.out _).mono ?_; rintro e w4 ⟨rfl, hb⟩
         have HX4 : Hid (XRep w4 O B fb vn vk vc { S with now := S.now.set i x' }) := HXV.out.below hb
         have HF4 : Hid (Fr O O w w4) := HFV.out.trans (Fr.below hb)
         have g1 : w4.cell? ⟨fb i, 1, none⟩ = some (.string y) := cell_in (FS.out w4 HX4.out) 1 _ rfl
         have f1 := unfrozen_in (FS.out w4 HX4.out) 1
         clear hb))
    go_end0
    refine ⟨rfl, ?_, HF4.out.trans (fr_at (HX4.out.ofl i (by simpa using HI.out)) _ _)⟩
    rw [R.out]
    have := HX4.out.putFile (i := i) (a := x') (b := y') (by simpa using HK.out.len) (by simpa using HI.out) (by simp) (by rw [heap_set w4 (fb i) 1 _ _ _ _ (FS.out w4 HX4.out)]; rfl) (fun q hq => Below.heap_setCell w4 ⟨fb i, 1, none⟩ _ q hq)
    simpa [List.set_set] using this
end Go.Proofs.Ytnkgfoabadjboaa
