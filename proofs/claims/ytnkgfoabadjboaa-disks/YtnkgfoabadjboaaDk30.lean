/-
  Bend, by the document. Conditions: the disk stands for a plain state; fewer than 2^41 entries; the number that bends is below 2^32.
-/
import Derived.Test.YtnkgfoabadjboaaDk28
import Derived.Test.YtnkgfoabadjboaaDk29
namespace Go.Proofs.Ytnkgfoabadjboaa
open Go.RowKit
set_option linter.unusedVariables false
set_option linter.unusedSimpArgs false
set_option maxHeartbeats 2000000 in
set_option maxRecDepth 100000 in
theorem rbend_any (O : Nat → Prop) (D : Nat) (vN vK vn vs vc : Value) (S : St) (m : Nat) (s : ByteArray) (a v : Int) (w : World) (h : RRep w O D vN vK vn vs vc S) (k : S.Ok m) (hm : m < 2199023255552) (hv0 : 0 ≤ v) (hv1 : v < 4294967296) :
    Calls Try.prog 105 #[.pointer (some ⟨D, 0, none⟩), .string s, .int .i64 a, .int .i64 v] w fun e w' => e = .returned (.tuple #[]) ∧ RRep w' O D vN vK vn vs vc (bendS S s a v) ∧ Fr O O w w' := by
  have HH : Hid (RRep w O D vN vK vn vs vc S) := h
  have HK : Hid (S.Ok m) := k
  have c2 : w.cell? ⟨D, 2, none⟩ = some vn := cell_in h.blk 2 _ rfl
  cases hf : findN S.names s with
  | none =>
    have R : Hid (bendS S s a v = S) := by show _ = _; unfold bendS; rw [hf]
    have HF : Hid _ := hf
    clear h k hf
    go_enter Try.func105, Try.ntmps105
    go_wp2_with (first
      | (go_at_call 126; refine (rfind_none O D vN vK vn vs vc S m s _ HH.out HK.out hm HF.out).mono ?_; rintro e w' ⟨rfl, hw'⟩; subst w'))
    refine bodyPost_ret (results_none rfl _ _ _) rfl ?_
    exact ⟨rfl, by rw [R.out]; exact HH.out, Fr.refl _ _⟩
  | some i =>
    have hi := find_lt k hf
    have hk : i < S.kept.length := by rw [k.len]; exact hi
    have R : bendS S s a v = { S with now := S.now.set i (bentB (nowOf S i) a v), kept := S.kept.set i (bentB (keptOf S i) a v) } := by unfold bendS; rw [hf]
    obtain ⟨g, cap, rfl, _, _⟩ := outS_slot h.now hi
    obtain ⟨gk, capk, rfl, _, _⟩ := outS_slot h.kept hk
    have hl := k.len
    rw [hl] at h HH ⊢
    obtain ⟨q0, q1, q2, q3⟩ := h.slots hi hk
    refine (rbend_cells D g gk i S.now.length cap capk vn (S.names.map toR) s (nowOf S i) (keptOf S i) a v w (rents_of h.names (by have := k.ln; omega)) (by rw [findR_map, hf]; rfl) (by omega) (by have := k.lf; omega) q0.1 q0.2 c2 q1.1 q2 q1.2 q3
      (h.lt D h.oD) (h.lt g (h.oN g rfl)) (h.lt gk (h.oK gk rfl)) (fun e => h.nk g rfl (by rw [e]; rfl)) (fun e => row_ne h.blk h.now (by decide) g rfl e) (fun e => row_ne h.blk h.kept (by decide) gk rfl e) (now_lt k hi) (kept_lt k hi) hv0 hv1).mono ?_
    rintro e w' ⟨rfl, w1, w2, b1, b2, rfl⟩
    have x1 := (h.below b1).setNow i (bentB (nowOf S i) a v)
    have x2 := x1.same b2.size (fun z hz => b2.block z (h.lt z hz))
    have x3 := x2.setKept i (bentB (keptOf S i) a v)
    refine ⟨rfl, by rw [R]; exact x3, ?_⟩
    refine ⟨b2.os.trans b1.os, b2.tape.trans b1.tape, b2.output.trans b1.output, ?_, ?_, fun _ q => Or.inl q⟩
    · have s1 := b1.size
      have s2 := b2.size
      simp at s2
      simp; omega
    · intro z hz hO
      rw [Below.heap_setCell w2 ⟨gk, i, none⟩ _ z (fun e => hO (by rw [e]; exact h.oK gk rfl)), b2.block z hz, Below.heap_setCell w1 ⟨g, i, none⟩ _ z (fun e => hO (by rw [e]; exact h.oN g rfl))]
      exact b1.block z hz
end Go.Proofs.Ytnkgfoabadjboaa
