/-
  A deed: Write, Read, Sync, Rename, Remove, SyncNames. Conditions: the pair stands for a plain state; fewer than 2^41 entries; lengths are ints.
-/
import Derived.Test.YtnkgfoabadjboaaDk33
namespace Go.Proofs.Ytnkgfoabadjboaa
open Go.RowKit
set_option linter.unusedVariables false
set_option linter.unusedSimpArgs false
set_option maxHeartbeats 4000000 in
set_option maxRecDepth 100000 in
theorem deed1_any (Q : Nat → Prop) (P n m : Nat) (S : St) (wh a b : Int) (s t : ByteArray) (w : World) (h : PairR w Q P n S) (k : S.Ok m) (hm : m < 2199023255551) (hs : s.size < 4611686018427387904) (ht : t.size < 4611686018427387904) (ha : -9223372036854775808 ≤ a ∧ a ≤ 9223372036854775807) (hb : -9223372036854775808 ≤ b ∧ b ≤ 9223372036854775807) :
    Calls Try.prog 47 #[.pointer (some ⟨P, 0, none⟩), .agg #[.int .i64 wh, .int .i64 1, .string s, .string t, .int .i64 a, .int .i64 b]] w fun e w' => e = .returned (.bool true) ∧ Deedd w Q P n m w' := by
  have hs' : s.size ≤ maxLen := by unfold maxLen; omega
  have ht' : t.size ≤ maxLen := by unfold maxLen; omega
  have hm' : m < 2199023255552 := by omega
  obtain ⟨B, D, D0⟩ := dstart h #[.int .i64 wh, .int .i64 1, .string s, .string t, .int .i64 a, .int .i64 b]
  obtain ⟨W, hW⟩ : ∃ W, w.alloc (.cells #[.int .i64 wh, .int .i64 1, .string s, .string t, .int .i64 a, .int .i64 b] 48) = W := ⟨_, rfl⟩
  rw [hW] at D0
  have HW : Hid _ := hW
  have k1 : W.cell? ⟨w.heap.size, 1, none⟩ = some (.int .i64 1) := cell_in D0.bx 1 _ rfl
  have C1 : Hid _ := dx_write D0.drew k hm s t hs' ht'
  have S0 : W.drew.cell? ⟨P, 0, none⟩ = some (.pointer (some ⟨B, 0, none⟩)) ∧ W.drew.cell? ⟨w.heap.size, 2, none⟩ = some (.string s) ∧ W.drew.cell? ⟨w.heap.size, 3, none⟩ = some (.string t) := ⟨D0.drew.p0, cell_in D0.drew.bx 2 _ rfl, cell_in D0.drew.bx 3 _ rfl⟩
  have HK : Hid (S.Ok m) := k
  have HS : Hid (s.size ≤ maxLen ∧ t.size ≤ maxLen) := ⟨hs', ht'⟩
  have HM : Hid (m < 2199023255551 ∧ m < 2199023255552) := ⟨hm, hm'⟩
  have OK : Hid ((wrS S s t).Ok (m + 1)) := wr_ok k s t ht
  clear h k hW D0 hs ht hs' ht' hm hm'
  go_enter Try.func47, Try.ntmps47
  go_upto_region 1 with fail
  rw [HW.out]
  go_upto_region 3 with fail
  go_region_held3 (fun w' => w'.cell? ⟨P, 0, none⟩ = some (.pointer (some ⟨B, 0, none⟩)) ∧ w'.cell? ⟨w.heap.size, 2, none⟩ = some (.string s) ∧ w'.cell? ⟨w.heap.size, 3, none⟩ = some (.string t)) (assumption) (first
    | (go_at_call 87; refine Calls.mono C1.out ?_; rintro e w1 ⟨rfl, D1⟩
       have S1 : w1.cell? ⟨P, 0, none⟩ = some (.pointer (some ⟨B, 0, none⟩)) ∧ w1.cell? ⟨w.heap.size, 2, none⟩ = some (.string s) ∧ w1.cell? ⟨w.heap.size, 3, none⟩ = some (.string t) := ⟨D1.p0, cell_in D1.bx 2 _ rfl, cell_in D1.bx 3 _ rfl⟩
       have HD1 : Hid (DX w Q P w.heap.size #[.int .i64 wh, .int .i64 1, .string s, .string t, .int .i64 a, .int .i64 b] n B D (wrS S s t) S w1) := D1
       clear D1))
  have C2 : Hid _ := dx_rwrite HD1.out.drew HK.out HM.out.1 s t HS.out.1 HS.out.2
  have T0 : w1.drew.cell? ⟨P, 1, none⟩ = some (.pointer (some ⟨D, 0, none⟩)) ∧ w1.drew.cell? ⟨w.heap.size, 2, none⟩ = some (.string s) ∧ w1.drew.cell? ⟨w.heap.size, 3, none⟩ = some (.string t) := ⟨HD1.out.drew.p1, cell_in HD1.out.drew.bx 2 _ rfl, cell_in HD1.out.drew.bx 3 _ rfl⟩
  clear S0 S1 k1
  go_upto_region 4 with fail
  go_region_held3 (fun w' => w'.cell? ⟨P, 1, none⟩ = some (.pointer (some ⟨D, 0, none⟩)) ∧ w'.cell? ⟨w.heap.size, 2, none⟩ = some (.string s) ∧ w'.cell? ⟨w.heap.size, 3, none⟩ = some (.string t)) (assumption) (first
    | (go_at_call 53; refine (dnum_any _ _).mono ?_; rintro e w' ⟨rfl, hw'⟩; subst w')
    | (go_at_call 88; refine Calls.mono C2.out ?_; rintro e w2 ⟨rfl, D2⟩
       have T2 : w2.cell? ⟨P, 1, none⟩ = some (.pointer (some ⟨D, 0, none⟩)) ∧ w2.cell? ⟨w.heap.size, 2, none⟩ = some (.string s) ∧ w2.cell? ⟨w.heap.size, 3, none⟩ = some (.string t) := ⟨D2.p1, cell_in D2.bx 2 _ rfl, cell_in D2.bx 3 _ rfl⟩
       have HD2 : Hid (DX w Q P w.heap.size #[.int .i64 wh, .int .i64 1, .string s, .string t, .int .i64 a, .int .i64 b] n B D (wrS S s t) (wrS S s t) w2) := D2
       clear D2))
  go_wp2
  go_ret
  exact ⟨rfl, dend HD2.out OK.out (Nat.le_succ n)⟩
set_option maxHeartbeats 4000000 in
set_option maxRecDepth 100000 in
theorem deed3_any (Q : Nat → Prop) (P n m : Nat) (S : St) (wh a b : Int) (s t : ByteArray) (w : World) (h : PairR w Q P n S) (k : S.Ok m) (hm : m < 2199023255551) (hs : s.size < 4611686018427387904) (ht : t.size < 4611686018427387904) (ha : -9223372036854775808 ≤ a ∧ a ≤ 9223372036854775807) (hb : -9223372036854775808 ≤ b ∧ b ≤ 9223372036854775807) :
    Calls Try.prog 47 #[.pointer (some ⟨P, 0, none⟩), .agg #[.int .i64 wh, .int .i64 3, .string s, .string t, .int .i64 a, .int .i64 b]] w fun e w' => e = .returned (.bool true) ∧ Deedd w Q P n m w' := by
  have hs' : s.size ≤ maxLen := by unfold maxLen; omega
  have ht' : t.size ≤ maxLen := by unfold maxLen; omega
  have hm' : m < 2199023255552 := by omega
  obtain ⟨B, D, D0⟩ := dstart h #[.int .i64 wh, .int .i64 3, .string s, .string t, .int .i64 a, .int .i64 b]
  obtain ⟨W, hW⟩ : ∃ W, w.alloc (.cells #[.int .i64 wh, .int .i64 3, .string s, .string t, .int .i64 a, .int .i64 b] 48) = W := ⟨_, rfl⟩
  rw [hW] at D0
  have HW : Hid _ := hW
  have k1 : W.cell? ⟨w.heap.size, 1, none⟩ = some (.int .i64 3) := cell_in D0.bx 1 _ rfl
  have C1 : Hid _ := dx_sync D0.drew k hm' s
  have S0 : W.drew.cell? ⟨P, 0, none⟩ = some (.pointer (some ⟨B, 0, none⟩)) ∧ W.drew.cell? ⟨w.heap.size, 2, none⟩ = some (.string s) := ⟨D0.drew.p0, cell_in D0.drew.bx 2 _ rfl⟩
  have HK : Hid (S.Ok m) := k
  have HS : Hid (s.size ≤ maxLen ∧ t.size ≤ maxLen) := ⟨hs', ht'⟩
  have HM : Hid (m < 2199023255551 ∧ m < 2199023255552) := ⟨hm, hm'⟩
  have OK : Hid ((syncS S s).Ok (m + 1)) := sync_ok k s
  clear h k hW D0 hs ht hs' ht' hm hm'
  go_enter Try.func47, Try.ntmps47
  go_upto_region 1 with fail
  rw [HW.out]
  go_upto_region 10 with fail
  go_region_held3 (fun w' => w'.cell? ⟨P, 0, none⟩ = some (.pointer (some ⟨B, 0, none⟩)) ∧ w'.cell? ⟨w.heap.size, 2, none⟩ = some (.string s)) (assumption) (first
    | (go_at_call 91; refine Calls.mono C1.out ?_; rintro e w1 ⟨rfl, D1⟩
       have S1 : w1.cell? ⟨P, 0, none⟩ = some (.pointer (some ⟨B, 0, none⟩)) ∧ w1.cell? ⟨w.heap.size, 2, none⟩ = some (.string s) := ⟨D1.p0, cell_in D1.bx 2 _ rfl⟩
       have HD1 : Hid (DX w Q P w.heap.size #[.int .i64 wh, .int .i64 3, .string s, .string t, .int .i64 a, .int .i64 b] n B D (syncS S s) S w1) := D1
       clear D1))
  have C2 : Hid _ := dx_rsync HD1.out.drew HK.out HM.out.2 s
  have T0 : w1.drew.cell? ⟨P, 1, none⟩ = some (.pointer (some ⟨D, 0, none⟩)) ∧ w1.drew.cell? ⟨w.heap.size, 2, none⟩ = some (.string s) := ⟨HD1.out.drew.p1, cell_in HD1.out.drew.bx 2 _ rfl⟩
  clear S0 S1 k1
  go_upto_region 11 with fail
  go_region_held3 (fun w' => w'.cell? ⟨P, 1, none⟩ = some (.pointer (some ⟨D, 0, none⟩)) ∧ w'.cell? ⟨w.heap.size, 2, none⟩ = some (.string s)) (assumption) (first
    | (go_at_call 53; refine (dnum_any _ _).mono ?_; rintro e w' ⟨rfl, hw'⟩; subst w')
    | (go_at_call 92; refine Calls.mono C2.out ?_; rintro e w2 ⟨rfl, D2⟩
       have T2 : w2.cell? ⟨P, 1, none⟩ = some (.pointer (some ⟨D, 0, none⟩)) ∧ w2.cell? ⟨w.heap.size, 2, none⟩ = some (.string s) := ⟨D2.p1, cell_in D2.bx 2 _ rfl⟩
       have HD2 : Hid (DX w Q P w.heap.size #[.int .i64 wh, .int .i64 3, .string s, .string t, .int .i64 a, .int .i64 b] n B D (syncS S s) (syncS S s) w2) := D2
       clear D2))
  go_wp2
  go_ret
  exact ⟨rfl, dend HD2.out OK.out (Nat.le_succ n)⟩
set_option maxHeartbeats 4000000 in
set_option maxRecDepth 100000 in
theorem deed4_any (Q : Nat → Prop) (P n m : Nat) (S : St) (wh a b : Int) (s t : ByteArray) (w : World) (h : PairR w Q P n S) (k : S.Ok m) (hm : m < 2199023255551) (hs : s.size < 4611686018427387904) (ht : t.size < 4611686018427387904) (ha : -9223372036854775808 ≤ a ∧ a ≤ 9223372036854775807) (hb : -9223372036854775808 ≤ b ∧ b ≤ 9223372036854775807) :
    Calls Try.prog 47 #[.pointer (some ⟨P, 0, none⟩), .agg #[.int .i64 wh, .int .i64 4, .string s, .string t, .int .i64 a, .int .i64 b]] w fun e w' => e = .returned (.bool true) ∧ Deedd w Q P n m w' := by
  have hs' : s.size ≤ maxLen := by unfold maxLen; omega
  have ht' : t.size ≤ maxLen := by unfold maxLen; omega
  have hm' : m < 2199023255552 := by omega
  obtain ⟨B, D, D0⟩ := dstart h #[.int .i64 wh, .int .i64 4, .string s, .string t, .int .i64 a, .int .i64 b]
  obtain ⟨W, hW⟩ : ∃ W, w.alloc (.cells #[.int .i64 wh, .int .i64 4, .string s, .string t, .int .i64 a, .int .i64 b] 48) = W := ⟨_, rfl⟩
  rw [hW] at D0
  have HW : Hid _ := hW
  have k1 : W.cell? ⟨w.heap.size, 1, none⟩ = some (.int .i64 4) := cell_in D0.bx 1 _ rfl
  have C1 : Hid _ := dx_ren D0.drew k hm' s t ht'
  have S0 : W.drew.cell? ⟨P, 0, none⟩ = some (.pointer (some ⟨B, 0, none⟩)) ∧ W.drew.cell? ⟨w.heap.size, 2, none⟩ = some (.string s) ∧ W.drew.cell? ⟨w.heap.size, 3, none⟩ = some (.string t) := ⟨D0.drew.p0, cell_in D0.drew.bx 2 _ rfl, cell_in D0.drew.bx 3 _ rfl⟩
  have HK : Hid (S.Ok m) := k
  have HS : Hid (s.size ≤ maxLen ∧ t.size ≤ maxLen) := ⟨hs', ht'⟩
  have HM : Hid (m < 2199023255551 ∧ m < 2199023255552) := ⟨hm, hm'⟩
  have OK : Hid ((renS S s t).Ok (m + 1)) := ren_ok k s t
  clear h k hW D0 hs ht hs' ht' hm hm'
  go_enter Try.func47, Try.ntmps47
  go_upto_region 1 with fail
  rw [HW.out]
  go_upto_region 13 with fail
  go_region_held3 (fun w' => w'.cell? ⟨P, 0, none⟩ = some (.pointer (some ⟨B, 0, none⟩)) ∧ w'.cell? ⟨w.heap.size, 2, none⟩ = some (.string s) ∧ w'.cell? ⟨w.heap.size, 3, none⟩ = some (.string t)) (assumption) (first
    | (go_at_call 93; refine Calls.mono C1.out ?_; rintro e w1 ⟨rfl, D1⟩
       have S1 : w1.cell? ⟨P, 0, none⟩ = some (.pointer (some ⟨B, 0, none⟩)) ∧ w1.cell? ⟨w.heap.size, 2, none⟩ = some (.string s) ∧ w1.cell? ⟨w.heap.size, 3, none⟩ = some (.string t) := ⟨D1.p0, cell_in D1.bx 2 _ rfl, cell_in D1.bx 3 _ rfl⟩
       have HD1 : Hid (DX w Q P w.heap.size #[.int .i64 wh, .int .i64 4, .string s, .string t, .int .i64 a, .int .i64 b] n B D (renS S s t) S w1) := D1
       clear D1))
  have C2 : Hid _ := dx_rren HD1.out.drew HK.out HM.out.2 s t HS.out.2
  have T0 : w1.drew.cell? ⟨P, 1, none⟩ = some (.pointer (some ⟨D, 0, none⟩)) ∧ w1.drew.cell? ⟨w.heap.size, 2, none⟩ = some (.string s) ∧ w1.drew.cell? ⟨w.heap.size, 3, none⟩ = some (.string t) := ⟨HD1.out.drew.p1, cell_in HD1.out.drew.bx 2 _ rfl, cell_in HD1.out.drew.bx 3 _ rfl⟩
  clear S0 S1 k1
  go_upto_region 14 with fail
  go_region_held3 (fun w' => w'.cell? ⟨P, 1, none⟩ = some (.pointer (some ⟨D, 0, none⟩)) ∧ w'.cell? ⟨w.heap.size, 2, none⟩ = some (.string s) ∧ w'.cell? ⟨w.heap.size, 3, none⟩ = some (.string t)) (assumption) (first
    | (go_at_call 53; refine (dnum_any _ _).mono ?_; rintro e w' ⟨rfl, hw'⟩; subst w')
    | (go_at_call 94; refine Calls.mono C2.out ?_; rintro e w2 ⟨rfl, D2⟩
       have T2 : w2.cell? ⟨P, 1, none⟩ = some (.pointer (some ⟨D, 0, none⟩)) ∧ w2.cell? ⟨w.heap.size, 2, none⟩ = some (.string s) ∧ w2.cell? ⟨w.heap.size, 3, none⟩ = some (.string t) := ⟨D2.p1, cell_in D2.bx 2 _ rfl, cell_in D2.bx 3 _ rfl⟩
       have HD2 : Hid (DX w Q P w.heap.size #[.int .i64 wh, .int .i64 4, .string s, .string t, .int .i64 a, .int .i64 b] n B D (renS S s t) (renS S s t) w2) := D2
       clear D2))
  go_wp2
  go_ret
  exact ⟨rfl, dend HD2.out OK.out (Nat.le_succ n)⟩
set_option maxHeartbeats 4000000 in
set_option maxRecDepth 100000 in
theorem deed5_any (Q : Nat → Prop) (P n m : Nat) (S : St) (wh a b : Int) (s t : ByteArray) (w : World) (h : PairR w Q P n S) (k : S.Ok m) (hm : m < 2199023255551) (hs : s.size < 4611686018427387904) (ht : t.size < 4611686018427387904) (ha : -9223372036854775808 ≤ a ∧ a ≤ 9223372036854775807) (hb : -9223372036854775808 ≤ b ∧ b ≤ 9223372036854775807) :
    Calls Try.prog 47 #[.pointer (some ⟨P, 0, none⟩), .agg #[.int .i64 wh, .int .i64 5, .string s, .string t, .int .i64 a, .int .i64 b]] w fun e w' => e = .returned (.bool true) ∧ Deedd w Q P n m w' := by
  have hs' : s.size ≤ maxLen := by unfold maxLen; omega
  have ht' : t.size ≤ maxLen := by unfold maxLen; omega
  have hm' : m < 2199023255552 := by omega
  obtain ⟨B, D, D0⟩ := dstart h #[.int .i64 wh, .int .i64 5, .string s, .string t, .int .i64 a, .int .i64 b]
  obtain ⟨W, hW⟩ : ∃ W, w.alloc (.cells #[.int .i64 wh, .int .i64 5, .string s, .string t, .int .i64 a, .int .i64 b] 48) = W := ⟨_, rfl⟩
  rw [hW] at D0
  have HW : Hid _ := hW
  have k1 : W.cell? ⟨w.heap.size, 1, none⟩ = some (.int .i64 5) := cell_in D0.bx 1 _ rfl
  have C1 : Hid _ := dx_rem D0.drew k hm' s
  have S0 : W.drew.cell? ⟨P, 0, none⟩ = some (.pointer (some ⟨B, 0, none⟩)) ∧ W.drew.cell? ⟨w.heap.size, 2, none⟩ = some (.string s) := ⟨D0.drew.p0, cell_in D0.drew.bx 2 _ rfl⟩
  have HK : Hid (S.Ok m) := k
  have HS : Hid (s.size ≤ maxLen ∧ t.size ≤ maxLen) := ⟨hs', ht'⟩
  have HM : Hid (m < 2199023255551 ∧ m < 2199023255552) := ⟨hm, hm'⟩
  have OK : Hid ((remS S s).Ok (m + 1)) := rem_ok k s
  clear h k hW D0 hs ht hs' ht' hm hm'
  go_enter Try.func47, Try.ntmps47
  go_upto_region 1 with fail
  rw [HW.out]
  go_upto_region 16 with fail
  go_region_held3 (fun w' => w'.cell? ⟨P, 0, none⟩ = some (.pointer (some ⟨B, 0, none⟩)) ∧ w'.cell? ⟨w.heap.size, 2, none⟩ = some (.string s)) (assumption) (first
    | (go_at_call 95; refine Calls.mono C1.out ?_; rintro e w1 ⟨rfl, D1⟩
       have S1 : w1.cell? ⟨P, 0, none⟩ = some (.pointer (some ⟨B, 0, none⟩)) ∧ w1.cell? ⟨w.heap.size, 2, none⟩ = some (.string s) := ⟨D1.p0, cell_in D1.bx 2 _ rfl⟩
       have HD1 : Hid (DX w Q P w.heap.size #[.int .i64 wh, .int .i64 5, .string s, .string t, .int .i64 a, .int .i64 b] n B D (remS S s) S w1) := D1
       clear D1))
  have C2 : Hid _ := dx_rrem HD1.out.drew HK.out HM.out.2 s
  have T0 : w1.drew.cell? ⟨P, 1, none⟩ = some (.pointer (some ⟨D, 0, none⟩)) ∧ w1.drew.cell? ⟨w.heap.size, 2, none⟩ = some (.string s) := ⟨HD1.out.drew.p1, cell_in HD1.out.drew.bx 2 _ rfl⟩
  clear S0 S1 k1
  go_upto_region 17 with fail
  go_region_held3 (fun w' => w'.cell? ⟨P, 1, none⟩ = some (.pointer (some ⟨D, 0, none⟩)) ∧ w'.cell? ⟨w.heap.size, 2, none⟩ = some (.string s)) (assumption) (first
    | (go_at_call 53; refine (dnum_any _ _).mono ?_; rintro e w' ⟨rfl, hw'⟩; subst w')
    | (go_at_call 96; refine Calls.mono C2.out ?_; rintro e w2 ⟨rfl, D2⟩
       have T2 : w2.cell? ⟨P, 1, none⟩ = some (.pointer (some ⟨D, 0, none⟩)) ∧ w2.cell? ⟨w.heap.size, 2, none⟩ = some (.string s) := ⟨D2.p1, cell_in D2.bx 2 _ rfl⟩
       have HD2 : Hid (DX w Q P w.heap.size #[.int .i64 wh, .int .i64 5, .string s, .string t, .int .i64 a, .int .i64 b] n B D (remS S s) (remS S s) w2) := D2
       clear D2))
  go_wp2
  go_ret
  exact ⟨rfl, dend HD2.out OK.out (Nat.le_succ n)⟩
end Go.Proofs.Ytnkgfoabadjboaa
