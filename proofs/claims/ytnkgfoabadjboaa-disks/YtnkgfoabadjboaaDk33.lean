/-
  The calls of both disks of a pair under way. Conditions: the disks stand for plain states; fewer than 2^41 entries; lengths are ints.
-/
import Derived.Test.YtnkgfoabadjboaaDk32
import Derived.Test.YtnkgfoabadjboaaPat
namespace Go.Proofs.Ytnkgfoabadjboaa
open Go.RowKit
set_option linter.unusedVariables false
set_option linter.unusedSimpArgs false
section
variable {w0 w : World} {Q0 : Nat → Prop} {P bd : Nat} {ds : Array Value} {n B D : Nat} {S SX SR : St} {m : Nat}
theorem dx_write (h : DX w0 Q0 P bd ds n B D S SR w) (k : S.Ok m) (hm : m < 2199023255551) (s t : ByteArray) (hs : s.size ≤ maxLen) (ht : t.size ≤ maxLen) :
    Calls Try.prog 87 #[.pointer (some ⟨B, 0, none⟩), .string s, .string t] w fun e w' => e = .returned (.int .i64 (wrE S s t)) ∧ DX w0 Q0 P bd ds n B D (wrS S s t) SR w' :=
  h.xcall fun OX fb vn vk vc x => (xwrite_any OX B fb vn vk vc S m s t w x k hm hs ht).mono fun e w' ⟨O', fb', vn', vc', a, b, c⟩ => ⟨O', fb', vn', vk, vc', a, b, c⟩
theorem dx_rwrite (h : DX w0 Q0 P bd ds n B D SX S w) (k : S.Ok m) (hm : m < 2199023255551) (s t : ByteArray) (hs : s.size ≤ maxLen) (ht : t.size ≤ maxLen) :
    Calls Try.prog 88 #[.pointer (some ⟨D, 0, none⟩), .string s, .string t] w fun e w' => e = .returned (.int .i64 (wrE S s t)) ∧ DX w0 Q0 P bd ds n B D SX (wrS S s t) w' :=
  h.rcall fun OD vN vK un us uc x => (rwrite_any OD D vN vK un us uc S m s t w x k hm hs ht).mono fun e w' ⟨O', vN', vK', vn', vc', a, b, c⟩ => ⟨O', vN', vK', vn', us, vc', a, b, c⟩
theorem dx_read (h : DX w0 Q0 P bd ds n B D S SR w) (k : S.Ok m) (hm : m < 2199023255552) (s : ByteArray) :
    Calls Try.prog 89 #[.pointer (some ⟨B, 0, none⟩), .string s] w fun e w' => e = .returned (.tuple #[.string (rdT S s), .int .i64 (rdE S s)]) ∧ DX w0 Q0 P bd ds n B D S SR w' :=
  h.xcall fun OX fb vn vk vc x => (xread_any OX B fb vn vk vc S m s w x k hm).mono fun e w' ⟨a, b⟩ => ⟨OX, fb, vn, vk, vc, a, x.below b, Fr.below b⟩
theorem dx_rread (h : DX w0 Q0 P bd ds n B D SX S w) (k : S.Ok m) (hm : m < 2199023255552) (s : ByteArray) :
    Calls Try.prog 90 #[.pointer (some ⟨D, 0, none⟩), .string s] w fun e w' => e = .returned (.tuple #[.string (rdT S s), .int .i64 (rdE S s)]) ∧ DX w0 Q0 P bd ds n B D SX S w' :=
  h.rcall fun OD vN vK un us uc x => (rread_any OD D vN vK un us uc S m s w x k hm).mono fun e w' ⟨a, b⟩ => ⟨OD, vN, vK, un, us, uc, a, by rw [b]; exact x, by rw [b]; exact Fr.refl _ _⟩
theorem dx_sync (h : DX w0 Q0 P bd ds n B D S SR w) (k : S.Ok m) (hm : m < 2199023255552) (s : ByteArray) :
    Calls Try.prog 91 #[.pointer (some ⟨B, 0, none⟩), .string s] w fun e w' => e = .returned (.int .i64 (syncE S s)) ∧ DX w0 Q0 P bd ds n B D (syncS S s) SR w' :=
  h.xcall fun OX fb vn vk vc x => (xsync_any OX B fb vn vk vc S m s w x k hm).mono fun e w' ⟨a, b, c⟩ => ⟨OX, fb, vn, vk, vc, a, b, c⟩
theorem dx_rsync (h : DX w0 Q0 P bd ds n B D SX S w) (k : S.Ok m) (hm : m < 2199023255552) (s : ByteArray) :
    Calls Try.prog 92 #[.pointer (some ⟨D, 0, none⟩), .string s] w fun e w' => e = .returned (.int .i64 (syncE S s)) ∧ DX w0 Q0 P bd ds n B D SX (syncS S s) w' :=
  h.rcall fun OD vN vK un us uc x => (rsync_any OD D vN vK un us uc S m s w x k hm).mono fun e w' ⟨a, b, c⟩ => ⟨OD, vN, vK, un, us, uc, a, b, c⟩
theorem dx_ren (h : DX w0 Q0 P bd ds n B D S SR w) (k : S.Ok m) (hm : m < 2199023255552) (s t : ByteArray) (ht : t.size ≤ maxLen) :
    Calls Try.prog 93 #[.pointer (some ⟨B, 0, none⟩), .string s, .string t] w fun e w' => e = .returned (.int .i64 (renE S s t)) ∧ DX w0 Q0 P bd ds n B D (renS S s t) SR w' :=
  h.xcall fun OX fb vn vk vc x => (xren_any OX B fb vn vk vc S m s t ht w x k hm).mono fun e w' ⟨O', vn', vc', a, b, c⟩ => ⟨O', fb, vn', vk, vc', a, b, c⟩
theorem dx_rren (h : DX w0 Q0 P bd ds n B D SX S w) (k : S.Ok m) (hm : m < 2199023255552) (s t : ByteArray) (ht : t.size ≤ maxLen) :
    Calls Try.prog 94 #[.pointer (some ⟨D, 0, none⟩), .string s, .string t] w fun e w' => e = .returned (.int .i64 (renE S s t)) ∧ DX w0 Q0 P bd ds n B D SX (renS S s t) w' :=
  h.rcall fun OD vN vK un us uc x => (rren_any OD D vN vK un us uc S m s t ht w x k hm).mono fun e w' ⟨O', vn', vc', a, b, c⟩ => ⟨O', vN, vK, vn', us, vc', a, b, c⟩
theorem dx_rem (h : DX w0 Q0 P bd ds n B D S SR w) (k : S.Ok m) (hm : m < 2199023255552) (s : ByteArray) :
    Calls Try.prog 95 #[.pointer (some ⟨B, 0, none⟩), .string s] w fun e w' => e = .returned (.int .i64 (remE S s)) ∧ DX w0 Q0 P bd ds n B D (remS S s) SR w' :=
  h.xcall fun OX fb vn vk vc x => (xrem_any OX B fb vn vk vc S m s w x k hm).mono fun e w' ⟨O', vn', vc', a, b, c⟩ => ⟨O', fb, vn', vk, vc', a, b, c⟩
theorem dx_rrem (h : DX w0 Q0 P bd ds n B D SX S w) (k : S.Ok m) (hm : m < 2199023255552) (s : ByteArray) :
    Calls Try.prog 96 #[.pointer (some ⟨D, 0, none⟩), .string s] w fun e w' => e = .returned (.int .i64 (remE S s)) ∧ DX w0 Q0 P bd ds n B D SX (remS S s) w' :=
  h.rcall fun OD vN vK un us uc x => (rrem_any OD D vN vK un us uc S m s w x k hm).mono fun e w' ⟨O', vn', vc', a, b, c⟩ => ⟨O', vN, vK, vn', us, vc', a, b, c⟩
theorem dx_sn (h : DX w0 Q0 P bd ds n B D S SR w) (k : S.Ok m) :
    Calls Try.prog 97 #[.pointer (some ⟨B, 0, none⟩)] w fun e w' => e = .returned (.int .i64 (snE S)) ∧ DX w0 Q0 P bd ds n B D (snS S) SR w' :=
  h.xcall fun OX fb vn vk vc x => (xsn_any OX B fb vn vk vc S m w x k).mono fun e w' ⟨vk', vc', a, b, c⟩ => ⟨OX, fb, vn, vk', vc', a, b, c⟩
theorem dx_rsn (h : DX w0 Q0 P bd ds n B D SX S w) (k : S.Ok m) :
    Calls Try.prog 98 #[.pointer (some ⟨D, 0, none⟩)] w fun e w' => e = .returned (.int .i64 (snE S)) ∧ DX w0 Q0 P bd ds n B D SX (snS S) w' :=
  h.rcall fun OD vN vK un us uc x => (rsn_any OD D vN vK un us uc S m w x k).mono fun e w' ⟨vs', vc', a, b, c⟩ => ⟨OD, vN, vK, un, vs', vc', a, b, c⟩
theorem dx_lim (h : DX w0 Q0 P bd ds n B D S SR w) (a b : Int) :
    Calls Try.prog 100 #[.pointer (some ⟨B, 0, none⟩), .int .i64 a, .int .i64 b] w fun e w' => e = .returned (.tuple #[]) ∧ DX w0 Q0 P bd ds n B D (limS S a b) SR w' :=
  h.xcall fun OX fb vn vk vc x => (xlimit_any OX B fb vn vk vc S a b w x).mono fun e w' ⟨p, q, r⟩ => ⟨OX, fb, vn, vk, vc, p, q, r⟩
theorem dx_rlim (h : DX w0 Q0 P bd ds n B D SX S w) (a b : Int) :
    Calls Try.prog 101 #[.pointer (some ⟨D, 0, none⟩), .int .i64 a, .int .i64 b] w fun e w' => e = .returned (.tuple #[]) ∧ DX w0 Q0 P bd ds n B D SX (limS S a b) w' :=
  h.rcall fun OD vN vK un us uc x => (rlimit_rep OD D vN vK un us uc S a b w x).mono fun e w' ⟨p, q, r⟩ => ⟨OD, vN, vK, un, us, uc, p, q, r⟩
theorem dx_crash (h : DX w0 Q0 P bd ds n B D S SR w) (k : S.Ok m) (hm : m < 2199023255552) (a b : Int) :
    Calls Try.prog 102 #[.pointer (some ⟨B, 0, none⟩), .int .i64 a, .int .i64 b] w fun e w' => e = .returned (.tuple #[]) ∧ DX w0 Q0 P bd ds n B D (crashS S a b) SR w' :=
  h.xcall fun OX fb vn vk vc x => (xcrash_any OX B fb vn vk vc S m a b w x k hm).mono fun e w' ⟨O', vn', vk', vc', p, q, r⟩ => ⟨O', fb, vn', vk', vc', p, q, r⟩
theorem dx_rcrash (h : DX w0 Q0 P bd ds n B D SX S w) (k : S.Ok m) (hm : m < 2199023255552) (a b : Int) :
    Calls Try.prog 103 #[.pointer (some ⟨D, 0, none⟩), .int .i64 a, .int .i64 b] w fun e w' => e = .returned (.tuple #[]) ∧ DX w0 Q0 P bd ds n B D SX (crashS S a b) w' :=
  h.rcall fun OD vN vK un us uc x => (rcrash_any OD D vN vK un us uc S m a b w x k hm).mono fun e w' ⟨O', vn', vs', vc', p, q, r⟩ => ⟨O', vN, vK, vn', vs', vc', p, q, r⟩
theorem dx_bend (h : DX w0 Q0 P bd ds n B D S SR w) (k : S.Ok m) (hm : m < 2199023255552) (s : ByteArray) (a v : Int) (h0 : 0 ≤ v) (h1 : v < 4294967296) :
    Calls Try.prog 104 #[.pointer (some ⟨B, 0, none⟩), .string s, .int .i64 a, .int .u32 v] w fun e w' => e = .returned (.tuple #[]) ∧ DX w0 Q0 P bd ds n B D (bendS S s a v) SR w' :=
  h.xcall fun OX fb vn vk vc x => (xbend_any OX B fb vn vk vc S m s a v w x k hm h0 h1).mono fun e w' ⟨p, q, r⟩ => ⟨OX, fb, vn, vk, vc, p, q, r⟩
theorem dx_rbend (h : DX w0 Q0 P bd ds n B D SX S w) (k : S.Ok m) (hm : m < 2199023255552) (s : ByteArray) (a v : Int) (h0 : 0 ≤ v) (h1 : v < 4294967296) :
    Calls Try.prog 105 #[.pointer (some ⟨D, 0, none⟩), .string s, .int .i64 a, .int .i64 v] w fun e w' => e = .returned (.tuple #[]) ∧ DX w0 Q0 P bd ds n B D SX (bendS S s a v) w' :=
  h.rcall fun OD vN vK un us uc x => (rbend_any OD D vN vK un us uc S m s a v w x k hm h0 h1).mono fun e w' ⟨p, q, r⟩ => ⟨OD, vN, vK, un, us, uc, p, q, r⟩
end
/-- a pair that stands for a plain state, with n lists that came out -/
def PairR (w : World) (Q : Nat → Prop) (P n : Nat) (S : St) : Prop :=
  ∃ B D OX OD OL fb vn vk vc vN vK un us uc vl vg ls gs, PR w P B D OX OD OL fb vn vk vc vN vK un us uc vl vg n ls gs S S ∧ Q = own P OX OD OL
/-- what a deed leaves -/
def Deedd (w : World) (Q : Nat → Prop) (P n m : Nat) (w' : World) : Prop := ∃ Q' S' n', PairR w' Q' P n' S' ∧ Fr Q Q' w w' ∧ S'.Ok (m + 1) ∧ n' ≤ n + 1
theorem dstart {w : World} {Q : Nat → Prop} {P n : Nat} {S : St} (h : PairR w Q P n S) (ds : Array Value) : ∃ B D, DX w Q P w.heap.size ds n B D S S (w.alloc (.cells ds 48)) := by
  obtain ⟨B, D, OX, OD, OL, fb, vn, vk, vc, vN, vK, un, us, uc, vl, vg, ls, gs, p, rfl⟩ := h
  have hb : Below w.heap.size w (w.alloc (.cells ds 48)) := (Below.refl _ _).alloc (Nat.le_refl _) _
  refine ⟨B, D, OX, OD, OL, fb, vn, vk, vc, vN, vK, un, us, uc, vl, vg, ls, gs, p.same hb.size (fun k hk => hb.block k (p.lt k hk)), heap_alloc_new w _, ?_, Fr.below hb⟩
  intro q
  have := p.lt _ q
  omega
theorem dend {w w' : World} {Q : Nat → Prop} {P bd n n0 B D m : Nat} {ds : Array Value} {S : St} (h : DX w Q P bd ds n B D S S w') (k : S.Ok (m + 1)) (hn : n ≤ n0 + 1) : Deedd w Q P n0 m w' := by
  obtain ⟨OX, OD, OL, fb, vn, vk, vc, vN, vK, un, us, uc, vl, vg, ls, gs, p, b, nb, f⟩ := h
  exact ⟨own P OX OD OL, S, n, ⟨B, D, OX, OD, OL, fb, vn, vk, vc, vN, vK, un, us, uc, vl, vg, ls, gs, p, rfl⟩, f, k, hn⟩
end Go.Proofs.Ytnkgfoabadjboaa
