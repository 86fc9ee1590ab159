/-
  Sync, Rename, Remove, SyncNames, Read and Limit of the program's disk. Conditions: the disk stands for a plain state; fewer than 2^41 entries; lengths are ints.
-/
import Derived.Test.YtnkgfoabadjboaaDk10
namespace Go.Proofs.Ytnkgfoabadjboaa
open Go.RowKit
set_option linter.unusedVariables false
set_option linter.unusedSimpArgs false
theorem XRep.put {w w' : World} {O : Nat → Prop} {B : Nat} {fb : Nat → Nat} {vn vk vc vn' vk' vc' : Value} {S : St} {N K : List Ent} {C : List Chg} {l r : Int} (h : XRep w O B fb vn vk vc S) (hs : w'.heap.size = w.heap.size)
    (hB : w'.heap[B]? = some (.cells #[vn', vk', vc', .int .i64 l, .int .i64 r] 92 (0, 0))) (ho : ∀ k, k ≠ B → w'.heap[k]? = w.heap[k]?)
    (hn : OutE w 0 vn' (N.map (toE fb)) ∧ Mine O vn') (hk : OutE w 0 vk' (K.map (toE fb)) ∧ Mine O vk') (hc : OutC w fb vc' C ∧ Mine O vc') : XRep w' O B fb vn' vk' vc' ⟨S.now, S.kept, N, K, C, l, r⟩ where
  blk := hB
  names := owns_same hn.1 fun g hg => ho g (fun e => row_ne h.blk hn.1 (by decide) g hg e.symm)
  safe := owns_same hk.1 fun g hg => ho g (fun e => row_ne h.blk hk.1 (by decide) g hg e.symm)
  chg := owns_same hc.1 fun g hg => ho g (fun e => row_ne h.blk hc.1 (by decide) g hg e.symm)
  files i hi := by rw [ho _ (fun e => kind_ne (h.files i hi) h.blk (by decide) e)]; exact h.files i hi
  inj := h.inj
  oB := h.oB
  on := hn.2
  ok := hk.2
  oc := hc.2
  ofl := h.ofl
  lt k hk := by rw [hs]; exact h.lt k hk
theorem fr_at {w : World} {O : Nat → Prop} {B : Nat} (hB : O B) (i : Nat) (v : Value) : Fr O O w (w.setCell ⟨B, i, none⟩ v) :=
  ⟨rfl, rfl, rfl, by simp, fun k _ hO => Below.heap_setCell w ⟨B, i, none⟩ v k (fun e => hO (by rw [e]; exact hB)), fun _ h => Or.inl h⟩
theorem XRep.left {w : World} {O : Nat → Prop} {B : Nat} {fb : Nat → Nat} {vn vk vc : Value} {S : St} (h : XRep w O B fb vn vk vc S) (l : Int) : XRep (w.setCell ⟨B, 3, none⟩ (.int .i64 l)) O B fb vn vk vc { S with left := l } :=
  h.put (by simp) (by rw [heap_set w B 3 _ _ _ _ h.blk]; rfl) (fun k hk => Below.heap_setCell w ⟨B, 3, none⟩ _ k hk) ⟨h.names, h.on⟩ ⟨h.safe, h.ok⟩ ⟨h.chg, h.oc⟩
theorem XRep.room {w : World} {O : Nat → Prop} {B : Nat} {fb : Nat → Nat} {vn vk vc : Value} {S : St} (h : XRep w O B fb vn vk vc S) (l : Int) : XRep (w.setCell ⟨B, 4, none⟩ (.int .i64 l)) O B fb vn vk vc { S with room := l } :=
  h.put (by simp) (by rw [heap_set w B 4 _ _ _ _ h.blk]; rfl) (fun k hk => Below.heap_setCell w ⟨B, 4, none⟩ _ k hk) ⟨h.names, h.on⟩ ⟨h.safe, h.ok⟩ ⟨h.chg, h.oc⟩
theorem xop_none (O : Nat → Prop) (B : Nat) (fb : Nat → Nat) (vn vk vc : Value) (S : St) (w : World) (h : XRep w O B fb vn vk vc S) (h0 : S.left = 0) :
    Calls Try.prog 119 #[.pointer (some ⟨B, 0, none⟩)] w fun e w' => e = .returned (.bool false) ∧ w' = w :=
  oper_none B w (by have := cell_in h.blk 3 (.int .i64 S.left) rfl; rw [h0] at this; exact this)
theorem xop_some (O : Nat → Prop) (B : Nat) (fb : Nat → Nat) (vn vk vc : Value) (S : St) (m : Nat) (w : World) (h : XRep w O B fb vn vk vc S) (k : S.Ok m) (h0 : ¬ S.left = 0) :
    Calls Try.prog 119 #[.pointer (some ⟨B, 0, none⟩)] w fun e w' => e = .returned (.bool true) ∧ XRep w' O B fb vn vk vc { S with left := less1 S.left } ∧ Fr O O w w' := by
  refine (oper_some B S.left w (by simpa using h0) k.l0.1 k.l0.2 (cell_in h.blk 3 _ rfl) (unfrozen_in h.blk 3)).mono ?_
  rintro e w' ⟨rfl, rfl⟩
  refine ⟨rfl, ?_, ?_⟩
  · unfold less1
    split
    · exact h.left _
    · exact h
  · split
    · exact fr_at h.oB _ _
    · exact Fr.refl _ _
theorem findE_map (fb : Nat → Nat) (L : List Ent) (s : ByteArray) : findE (L.map (toE fb)) s = ptrE fb (findN L s) := by
  induction L with
  | nil => rfl
  | cons a t ih =>
    unfold findE findN at *
    by_cases hq : sm a.1 s = true
    · have h1 : ((toE fb a).1.toList == s.toList) = true := hq
      rw [List.map_cons, List.find?_cons_of_pos (by exact h1), List.find?_cons_of_pos (by exact hq)]; rfl
    · have h1 : ¬ ((toE fb a).1.toList == s.toList) = true := hq
      rw [List.map_cons, List.find?_cons_of_neg (by exact h1), List.find?_cons_of_neg (by exact hq)]; exact ih
theorem xfind_any (O : Nat → Prop) (B : Nat) (fb : Nat → Nat) (vn vk vc : Value) (S : St) (m : Nat) (s : ByteArray) (w : World) (h : XRep w O B fb vn vk vc S) (k : S.Ok m) (hm : m < 2199023255552) :
    Calls Try.prog 122 #[vn, .string s] w fun e w' => e = .returned (.pointer (ptrE fb (findN S.names s))) ∧ Below w.heap.size w w' := by
  rw [← findE_map]
  exact find_any vn _ s w (ents_of h.names (by have := k.ln; simp; omega))
/-- one file's texts are turned -/
theorem XRep.putFile {w w' : World} {O : Nat → Prop} {B : Nat} {fb : Nat → Nat} {vn vk vc : Value} {S : St} {i : Nat} {a b : ByteArray} (h : XRep w O B fb vn vk vc S) (hl : S.kept.length = S.now.length) (hi : i < S.now.length) (hs : w'.heap.size = w.heap.size)
    (hF : w'.heap[fb i]? = some (.cells #[.string a, .string b] 122 (0, 0))) (ho : ∀ k, k ≠ fb i → w'.heap[k]? = w.heap[k]?) : XRep w' O B fb vn vk vc { S with now := S.now.set i a, kept := S.kept.set i b } where
  blk := by rw [ho B (fun e => kind_ne h.blk (h.files i hi) (by decide) e)]; exact h.blk
  names := owns_same h.names fun g hg => ho g (fun e => row_ne (h.files i hi) h.names (by decide) g hg e.symm)
  safe := owns_same h.safe fun g hg => ho g (fun e => row_ne (h.files i hi) h.safe (by decide) g hg e.symm)
  chg := owns_same h.chg fun g hg => ho g (fun e => row_ne (h.files i hi) h.chg (by decide) g hg e.symm)
  files j hj := by
    have hj' : j < S.now.length := by simpa using hj
    by_cases e : j = i
    · subst e
      rw [hF]
      unfold file
      simp [List.getD_eq_getElem?_getD, List.getElem?_set, hi, hl]
    · rw [ho _ (fun e' => e (h.inj j i hj' hi e')), h.files j hj']
      unfold file
      simp [List.getD_eq_getElem?_getD, List.getElem?_set, Ne.symm e]
  inj a b ha hb := h.inj a b (by simpa using ha) (by simpa using hb)
  oB := h.oB
  on := h.on
  ok := h.ok
  oc := h.oc
  ofl j hj := h.ofl j (by simpa using hj)
  lt k hk := by rw [hs]; exact h.lt k hk
/-! what each call answers, and what it makes of the plain state -/
def nowOf (S : St) (i : Nat) : ByteArray := S.now.getD i ByteArray.empty
def keptOf (S : St) (i : Nat) : ByteArray := S.kept.getD i ByteArray.empty
def opS (S : St) : St := { S with left := less1 S.left }
def syncE (S : St) (s : ByteArray) : Int := if S.left = 0 then 6 else match findN S.names s with | none => 4 | some _ => 0
def syncS (S : St) (s : ByteArray) : St := if S.left = 0 then S else match findN S.names s with | none => opS S | some i => { opS S with kept := S.kept.set i (nowOf S i) }
theorem set_same (l : List ByteArray) (i : Nat) (hi : i < l.length) : l.set i (l.getD i ByteArray.empty) = l := by
  apply List.ext_getElem?
  intro j
  rw [List.getElem?_set]
  by_cases e : i = j
  · subst e
    simp [hi, List.getD_eq_getElem?_getD]
  · simp [e]
theorem St.Ok.op {S : St} {m : Nat} (k : S.Ok m) : (opS S).Ok m :=
  { len := k.len, nums := k.nums, nums2 := k.nums2, nums3 := k.nums3, rise := k.rise, rise2 := k.rise2, tx := k.tx, tx2 := k.tx2, ln := k.ln, ls := k.ls, lf := k.lf, r0 := k.r0
    l0 := by have := k.l0; show -1 ≤ less1 S.left ∧ less1 S.left ≤ _; unfold less1; split <;> omega }
theorem xfind_none (O : Nat → Prop) (B : Nat) (fb : Nat → Nat) (vn vk vc : Value) (S : St) (m : Nat) (s : ByteArray) (w : World) (h : XRep w O B fb vn vk vc S) (k : S.Ok m) (hm : m < 2199023255552) (hf : findN S.names s = none) :
    Calls Try.prog 122 #[vn, .string s] w fun e w' => e = .returned (.pointer none) ∧ Below w.heap.size w w' := by
  have := xfind_any O B fb vn vk vc S m s w h k hm
  rw [hf] at this
  exact this
theorem xfind_some (O : Nat → Prop) (B : Nat) (fb : Nat → Nat) (vn vk vc : Value) (S : St) (m : Nat) (s : ByteArray) (i : Nat) (w : World) (h : XRep w O B fb vn vk vc S) (k : S.Ok m) (hm : m < 2199023255552) (hf : findN S.names s = some i) :
    Calls Try.prog 122 #[vn, .string s] w fun e w' => e = .returned (.pointer (some ⟨fb i, 0, none⟩)) ∧ Below w.heap.size w w' := by
  have := xfind_any O B fb vn vk vc S m s w h k hm
  rw [hf] at this
  exact this
theorem find_lt {S : St} {m : Nat} (k : S.Ok m) {s : ByteArray} {i : Nat} (hf : findN S.names s = some i) : i < S.now.length := by
  obtain ⟨e, he, rfl⟩ := findN_mem hf
  exact k.nums e he
set_option maxHeartbeats 2000000 in
set_option maxRecDepth 100000 in
theorem xsync_any (O : Nat → Prop) (B : Nat) (fb : Nat → Nat) (vn vk vc : Value) (S : St) (m : Nat) (s : ByteArray) (w : World) (h : XRep w O B fb vn vk vc S) (k : S.Ok m) (hm : m < 2199023255552) :
    Calls Try.prog 91 #[.pointer (some ⟨B, 0, none⟩), .string s] w fun e w' => e = .returned (.int .i64 (syncE S s)) ∧ XRep w' O B fb vn vk vc (syncS S s) ∧ Fr O O w w' := by
  have HH : Hid (XRep w O B fb vn vk vc S) := h
  have HK : Hid (S.Ok m) := k
  by_cases h0 : S.left = 0
  · have R : Hid (syncE S s = 6 ∧ syncS S s = S) := by show _ ∧ _; unfold syncE syncS; rw [if_pos h0, if_pos h0]; exact ⟨rfl, rfl⟩
    have OPN : Hid _ := h0
    clear h k h0
    go_enter Try.func91, Try.ntmps91
    go_wp2_with (first | (go_at_call 119; refine (xop_none O B fb vn vk vc S _ HH.out OPN.out).mono ?_; rintro e w' ⟨rfl, hw'⟩; subst w'))
    go_ret
    exact ⟨ret_int R.out.1.symm, by rw [R.out.2]; exact HH.out, Fr.refl _ _⟩
  · have OPN : Hid _ := h0
    cases hf : findN S.names s with
    | none =>
      have R : Hid (syncE S s = 4 ∧ syncS S s = opS S) := by show _ ∧ _; unfold syncE syncS; rw [if_neg h0, if_neg h0, hf]; exact ⟨rfl, rfl⟩
      have HF : Hid _ := hf
      clear h k h0 hf
      go_enter Try.func91, Try.ntmps91
      go_wp2_with (first
        | (go_at_call 119; refine (xop_some O B fb vn vk vc S m _ HH.out HK.out OPN.out).mono ?_; rintro e w1 ⟨rfl, X1, F1⟩
           have n1 : w1.cell? ⟨B, 0, none⟩ = some vn := cell_in X1.blk 0 _ rfl
           have HX1 : Hid (XRep w1 O B fb vn vk vc (opS S)) := X1
           have HF1 : Hid (Fr O O w w1) := F1
           clear X1 F1)
        | (go_at_call 122; refine (xfind_none O B fb vn vk vc (opS S) m s _ HX1.out HK.out.op hm HF.out).mono ?_; rintro e w2 ⟨rfl, hb⟩
           have HX2 : Hid (XRep w2 O B fb vn vk vc (opS S)) := HX1.out.below hb
           have HF2 : Hid (Fr O O w w2) := HF1.out.trans (Fr.below hb)
           clear hb))
      go_ret
      exact ⟨ret_int R.out.1.symm, by rw [R.out.2]; exact HX2.out, HF2.out⟩
    | some i =>
      have hi := find_lt k hf
      have R : Hid (syncE S s = 0 ∧ syncS S s = { opS S with now := (opS S).now.set i (nowOf S i), kept := (opS S).kept.set i (nowOf S i) }) := by
        show _ ∧ _
        unfold syncE syncS
        rw [if_neg h0, if_neg h0, hf]
        refine ⟨rfl, ?_⟩
        have : (opS S).now.set i (nowOf S i) = S.now := set_same S.now i hi
        rw [this]; rfl
      have HF : Hid _ := hf
      have HI : Hid _ := hi
      clear h k h0 hf hi
      go_enter Try.func91, Try.ntmps91
      go_wp2_with (first
        | (go_at_call 119; refine (xop_some O B fb vn vk vc S m _ HH.out HK.out OPN.out).mono ?_; rintro e w1 ⟨rfl, X1, F1⟩
           have n1 : w1.cell? ⟨B, 0, none⟩ = some vn := cell_in X1.blk 0 _ rfl
           have HX1 : Hid (XRep w1 O B fb vn vk vc (opS S)) := X1
           have HF1 : Hid (Fr O O w w1) := F1
           clear X1 F1)
        | (go_at_call 122; refine (xfind_some O B fb vn vk vc (opS S) m s i _ HX1.out HK.out.op hm HF.out).mono ?_; rintro e w2 ⟨rfl, hb⟩
           have HX2 : Hid (XRep w2 O B fb vn vk vc (opS S)) := HX1.out.below hb
           have HF2 : Hid (Fr O O w w2) := HF1.out.trans (Fr.below hb)
           have fl := HX2.out.files i HI.out
           have a0 : w2.cell? ⟨fb i, 0, none⟩ = some (.string (nowOf S i)) := cell_in fl 0 _ rfl
           have a1 : w2.cell? ⟨fb i, 1, none⟩ = some (.string (keptOf S i)) := cell_in fl 1 _ rfl
           have f1 := unfrozen_in fl 1
           have HFL : Hid (w2.heap[fb i]? = some (.cells #[.string (nowOf S i), .string (keptOf S i)] 122 (0, 0))) := fl
           clear hb fl))
      go_ret
      refine ⟨ret_int R.out.1.symm, ?_, HF2.out.trans (fr_at (HX2.out.ofl i HI.out) _ _)⟩
      rw [R.out.2]
      exact HX2.out.putFile HK.out.len HI.out (by simp) (by rw [heap_set w2 (fb i) 1 _ _ _ _ HFL.out]; rfl) (fun q hq => Below.heap_setCell w2 ⟨fb i, 1, none⟩ _ q hq)
end Go.Proofs.Ytnkgfoabadjboaa
