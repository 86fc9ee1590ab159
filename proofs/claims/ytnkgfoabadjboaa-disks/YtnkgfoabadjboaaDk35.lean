/-
  A deed: Read, SyncNames, Limit, Crash, Bend. Conditions: the pair stands for a plain state; fewer than 2^41 entries; lengths are ints.
-/
import Derived.Test.YtnkgfoabadjboaaDk34
namespace Go.Proofs.Ytnkgfoabadjboaa
open Go.RowKit
set_option linter.unusedVariables false
set_option linter.unusedSimpArgs false
set_option maxHeartbeats 4000000 in
set_option maxRecDepth 100000 in
theorem deed2_any (Q : Nat → Prop) (P n m : Nat) (S : St) (wh a b : Int) (s t : ByteArray) (w : World) (h : PairR w Q P n S) (k : S.Ok m) (hm : m < 2199023255551) (hs : s.size < 4611686018427387904) (ht : t.size < 4611686018427387904) (ha : -9223372036854775808 ≤ a ∧ a ≤ 9223372036854775807) (hb : -9223372036854775808 ≤ b ∧ b ≤ 9223372036854775807) :
    Calls Try.prog 47 #[.pointer (some ⟨P, 0, none⟩), .agg #[.int .i64 wh, .int .i64 2, .string s, .string t, .int .i64 a, .int .i64 b]] w fun e w' => e = .returned (.bool true) ∧ Deedd w Q P n m w' := by
  have hs' : s.size ≤ maxLen := by unfold maxLen; omega
  have ht' : t.size ≤ maxLen := by unfold maxLen; omega
  have hm' : m < 2199023255552 := by omega
  obtain ⟨B, D, D0⟩ := dstart h #[.int .i64 wh, .int .i64 2, .string s, .string t, .int .i64 a, .int .i64 b]
  obtain ⟨W, hW⟩ : ∃ W, w.alloc (.cells #[.int .i64 wh, .int .i64 2, .string s, .string t, .int .i64 a, .int .i64 b] 48) = W := ⟨_, rfl⟩
  rw [hW] at D0
  have HW : Hid _ := hW
  have k1 : W.cell? ⟨w.heap.size, 1, none⟩ = some (.int .i64 2) := cell_in D0.bx 1 _ rfl
  have C1 : Hid _ := dx_read D0.drew k hm' s
  have S0 : W.drew.cell? ⟨P, 0, none⟩ = some (.pointer (some ⟨B, 0, none⟩)) ∧ W.drew.cell? ⟨w.heap.size, 2, none⟩ = some (.string s) := ⟨D0.drew.p0, cell_in D0.drew.bx 2 _ rfl⟩
  have HK : Hid (S.Ok m) := k
  have HS : Hid (s.size ≤ maxLen ∧ t.size ≤ maxLen) := ⟨hs', ht'⟩
  have HM : Hid (m < 2199023255551 ∧ m < 2199023255552) := ⟨hm, hm'⟩
  have OK : Hid ((S).Ok (m + 1)) := k.next
  clear h k hW D0 hs ht hs' ht' hm hm'
  go_enter Try.func47, Try.ntmps47
  go_upto_region 1 with fail
  rw [HW.out]
  go_upto_region 6 with fail
  go_region_held3 (fun w' => w'.cell? ⟨P, 0, none⟩ = some (.pointer (some ⟨B, 0, none⟩)) ∧ w'.cell? ⟨w.heap.size, 2, none⟩ = some (.string s)) (assumption) (first
    | (go_at_call 89; refine Calls.mono C1.out ?_; rintro e w1 ⟨rfl, D1⟩
       have S1 : w1.cell? ⟨P, 0, none⟩ = some (.pointer (some ⟨B, 0, none⟩)) ∧ w1.cell? ⟨w.heap.size, 2, none⟩ = some (.string s) := ⟨D1.p0, cell_in D1.bx 2 _ rfl⟩
       have HD1 : Hid (DX w Q P w.heap.size #[.int .i64 wh, .int .i64 2, .string s, .string t, .int .i64 a, .int .i64 b] n B D (S) S w1) := D1
       clear D1))
  have C2 : Hid _ := dx_rread HD1.out.drew HK.out HM.out.2 s
  have T0 : w1.drew.cell? ⟨P, 1, none⟩ = some (.pointer (some ⟨D, 0, none⟩)) ∧ w1.drew.cell? ⟨w.heap.size, 2, none⟩ = some (.string s) := ⟨HD1.out.drew.p1, cell_in HD1.out.drew.bx 2 _ rfl⟩
  clear S0 S1 k1
  go_upto_region 7 with fail
  go_region_held3 (fun w' => w'.cell? ⟨P, 1, none⟩ = some (.pointer (some ⟨D, 0, none⟩)) ∧ w'.cell? ⟨w.heap.size, 2, none⟩ = some (.string s)) (assumption) (first
    | (go_at_call 90; refine Calls.mono C2.out ?_; rintro e w2 ⟨rfl, D2⟩
       have T2 : w2.cell? ⟨P, 1, none⟩ = some (.pointer (some ⟨D, 0, none⟩)) ∧ w2.cell? ⟨w.heap.size, 2, none⟩ = some (.string s) := ⟨D2.p1, cell_in D2.bx 2 _ rfl⟩
       have HD2 : Hid (DX w Q P w.heap.size #[.int .i64 wh, .int .i64 2, .string s, .string t, .int .i64 a, .int .i64 b] n B D (S) (S) w2) := D2
       clear D2))
  go_wp2_with (first | (go_at_call 53; refine (dnum_any _ _).mono ?_; rintro e w' ⟨rfl, hw'⟩; subst w'))
  go_ret
  exact ⟨rfl, dend HD2.out OK.out (Nat.le_succ n)⟩
set_option maxHeartbeats 4000000 in
set_option maxRecDepth 100000 in
theorem deed8_any (Q : Nat → Prop) (P n m : Nat) (S : St) (wh a b : Int) (s t : ByteArray) (w : World) (h : PairR w Q P n S) (k : S.Ok m) (hm : m < 2199023255551) (hs : s.size < 4611686018427387904) (ht : t.size < 4611686018427387904) (ha : -9223372036854775808 ≤ a ∧ a ≤ 9223372036854775807) (hb : -9223372036854775808 ≤ b ∧ b ≤ 9223372036854775807) :
    Calls Try.prog 47 #[.pointer (some ⟨P, 0, none⟩), .agg #[.int .i64 wh, .int .i64 8, .string s, .string t, .int .i64 a, .int .i64 b]] w fun e w' => e = .returned (.bool true) ∧ Deedd w Q P n m w' := by
  have hs' : s.size ≤ maxLen := by unfold maxLen; omega
  have ht' : t.size ≤ maxLen := by unfold maxLen; omega
  have hm' : m < 2199023255552 := by omega
  obtain ⟨B, D, D0⟩ := dstart h #[.int .i64 wh, .int .i64 8, .string s, .string t, .int .i64 a, .int .i64 b]
  obtain ⟨W, hW⟩ : ∃ W, w.alloc (.cells #[.int .i64 wh, .int .i64 8, .string s, .string t, .int .i64 a, .int .i64 b] 48) = W := ⟨_, rfl⟩
  rw [hW] at D0
  have HW : Hid _ := hW
  have k1 : W.cell? ⟨w.heap.size, 1, none⟩ = some (.int .i64 8) := cell_in D0.bx 1 _ rfl
  have C1 : Hid _ := dx_lim D0.drew a b
  have S0 : W.drew.cell? ⟨P, 0, none⟩ = some (.pointer (some ⟨B, 0, none⟩)) ∧ W.drew.cell? ⟨w.heap.size, 4, none⟩ = some (.int .i64 a) ∧ W.drew.cell? ⟨w.heap.size, 5, none⟩ = some (.int .i64 b) := ⟨D0.drew.p0, cell_in D0.drew.bx 4 _ rfl, cell_in D0.drew.bx 5 _ rfl⟩
  have HK : Hid (S.Ok m) := k
  have HS : Hid (s.size ≤ maxLen ∧ t.size ≤ maxLen) := ⟨hs', ht'⟩
  have HM : Hid (m < 2199023255551 ∧ m < 2199023255552) := ⟨hm, hm'⟩
  have OK : Hid ((limS S a b).Ok (m + 1)) := lim_ok k a b ha.2 hb.2
  clear h k hW D0 hs ht hs' ht' hm hm'
  go_enter Try.func47, Try.ntmps47
  go_upto_region 1 with fail
  rw [HW.out]
  go_upto_region 24 with fail
  go_region_held3 (fun w' => w'.cell? ⟨P, 0, none⟩ = some (.pointer (some ⟨B, 0, none⟩)) ∧ w'.cell? ⟨w.heap.size, 4, none⟩ = some (.int .i64 a) ∧ w'.cell? ⟨w.heap.size, 5, none⟩ = some (.int .i64 b)) (assumption) (first
    | (go_at_call 100; refine Calls.mono C1.out ?_; rintro e w1 ⟨rfl, D1⟩
       have S1 : w1.cell? ⟨P, 0, none⟩ = some (.pointer (some ⟨B, 0, none⟩)) ∧ w1.cell? ⟨w.heap.size, 4, none⟩ = some (.int .i64 a) ∧ w1.cell? ⟨w.heap.size, 5, none⟩ = some (.int .i64 b) := ⟨D1.p0, cell_in D1.bx 4 _ rfl, cell_in D1.bx 5 _ rfl⟩
       have HD1 : Hid (DX w Q P w.heap.size #[.int .i64 wh, .int .i64 8, .string s, .string t, .int .i64 a, .int .i64 b] n B D (limS S a b) S w1) := D1
       clear D1))
  have C2 : Hid _ := dx_rlim HD1.out.drew a b
  have T0 : w1.drew.cell? ⟨P, 1, none⟩ = some (.pointer (some ⟨D, 0, none⟩)) ∧ w1.drew.cell? ⟨w.heap.size, 4, none⟩ = some (.int .i64 a) ∧ w1.drew.cell? ⟨w.heap.size, 5, none⟩ = some (.int .i64 b) := ⟨HD1.out.drew.p1, cell_in HD1.out.drew.bx 4 _ rfl, cell_in HD1.out.drew.bx 5 _ rfl⟩
  clear S0 S1 k1
  go_upto_region 25 with fail
  go_region_held3 (fun w' => w'.cell? ⟨P, 1, none⟩ = some (.pointer (some ⟨D, 0, none⟩)) ∧ w'.cell? ⟨w.heap.size, 4, none⟩ = some (.int .i64 a) ∧ w'.cell? ⟨w.heap.size, 5, none⟩ = some (.int .i64 b)) (assumption) (first
    | (go_at_call 101; refine Calls.mono C2.out ?_; rintro e w2 ⟨rfl, D2⟩
       have T2 : w2.cell? ⟨P, 1, none⟩ = some (.pointer (some ⟨D, 0, none⟩)) ∧ w2.cell? ⟨w.heap.size, 4, none⟩ = some (.int .i64 a) ∧ w2.cell? ⟨w.heap.size, 5, none⟩ = some (.int .i64 b) := ⟨D2.p1, cell_in D2.bx 4 _ rfl, cell_in D2.bx 5 _ rfl⟩
       have HD2 : Hid (DX w Q P w.heap.size #[.int .i64 wh, .int .i64 8, .string s, .string t, .int .i64 a, .int .i64 b] n B D (limS S a b) (limS S a b) w2) := D2
       clear D2))
  go_wp2
  go_ret
  exact ⟨rfl, dend HD2.out OK.out (Nat.le_succ n)⟩
set_option maxHeartbeats 4000000 in
set_option maxRecDepth 100000 in
theorem deed9_any (Q : Nat → Prop) (P n m : Nat) (S : St) (wh a b : Int) (s t : ByteArray) (w : World) (h : PairR w Q P n S) (k : S.Ok m) (hm : m < 2199023255551) (hs : s.size < 4611686018427387904) (ht : t.size < 4611686018427387904) (ha : -9223372036854775808 ≤ a ∧ a ≤ 9223372036854775807) (hb : -9223372036854775808 ≤ b ∧ b ≤ 9223372036854775807) :
    Calls Try.prog 47 #[.pointer (some ⟨P, 0, none⟩), .agg #[.int .i64 wh, .int .i64 9, .string s, .string t, .int .i64 a, .int .i64 b]] w fun e w' => e = .returned (.bool true) ∧ Deedd w Q P n m w' := by
  have hs' : s.size ≤ maxLen := by unfold maxLen; omega
  have ht' : t.size ≤ maxLen := by unfold maxLen; omega
  have hm' : m < 2199023255552 := by omega
  obtain ⟨B, D, D0⟩ := dstart h #[.int .i64 wh, .int .i64 9, .string s, .string t, .int .i64 a, .int .i64 b]
  obtain ⟨W, hW⟩ : ∃ W, w.alloc (.cells #[.int .i64 wh, .int .i64 9, .string s, .string t, .int .i64 a, .int .i64 b] 48) = W := ⟨_, rfl⟩
  rw [hW] at D0
  have HW : Hid _ := hW
  have k1 : W.cell? ⟨w.heap.size, 1, none⟩ = some (.int .i64 9) := cell_in D0.bx 1 _ rfl
  have C1 : Hid _ := dx_crash D0.drew k hm' a b
  have S0 : W.drew.cell? ⟨P, 0, none⟩ = some (.pointer (some ⟨B, 0, none⟩)) ∧ W.drew.cell? ⟨w.heap.size, 4, none⟩ = some (.int .i64 a) ∧ W.drew.cell? ⟨w.heap.size, 5, none⟩ = some (.int .i64 b) := ⟨D0.drew.p0, cell_in D0.drew.bx 4 _ rfl, cell_in D0.drew.bx 5 _ rfl⟩
  have HK : Hid (S.Ok m) := k
  have HS : Hid (s.size ≤ maxLen ∧ t.size ≤ maxLen) := ⟨hs', ht'⟩
  have HM : Hid (m < 2199023255551 ∧ m < 2199023255552) := ⟨hm, hm'⟩
  have OK : Hid ((crashS S a b).Ok (m + 1)) := (crash_ok k a b).next
  clear h k hW D0 hs ht hs' ht' hm hm'
  go_enter Try.func47, Try.ntmps47
  go_upto_region 1 with fail
  rw [HW.out]
  go_upto_region 27 with fail
  go_region_held3 (fun w' => w'.cell? ⟨P, 0, none⟩ = some (.pointer (some ⟨B, 0, none⟩)) ∧ w'.cell? ⟨w.heap.size, 4, none⟩ = some (.int .i64 a) ∧ w'.cell? ⟨w.heap.size, 5, none⟩ = some (.int .i64 b)) (assumption) (first
    | (go_at_call 102; refine Calls.mono C1.out ?_; rintro e w1 ⟨rfl, D1⟩
       have S1 : w1.cell? ⟨P, 0, none⟩ = some (.pointer (some ⟨B, 0, none⟩)) ∧ w1.cell? ⟨w.heap.size, 4, none⟩ = some (.int .i64 a) ∧ w1.cell? ⟨w.heap.size, 5, none⟩ = some (.int .i64 b) := ⟨D1.p0, cell_in D1.bx 4 _ rfl, cell_in D1.bx 5 _ rfl⟩
       have HD1 : Hid (DX w Q P w.heap.size #[.int .i64 wh, .int .i64 9, .string s, .string t, .int .i64 a, .int .i64 b] n B D (crashS S a b) S w1) := D1
       clear D1))
  have C2 : Hid _ := dx_rcrash HD1.out.drew HK.out HM.out.2 a b
  have T0 : w1.drew.cell? ⟨P, 1, none⟩ = some (.pointer (some ⟨D, 0, none⟩)) ∧ w1.drew.cell? ⟨w.heap.size, 4, none⟩ = some (.int .i64 a) ∧ w1.drew.cell? ⟨w.heap.size, 5, none⟩ = some (.int .i64 b) := ⟨HD1.out.drew.p1, cell_in HD1.out.drew.bx 4 _ rfl, cell_in HD1.out.drew.bx 5 _ rfl⟩
  clear S0 S1 k1
  go_upto_region 28 with fail
  go_region_held3 (fun w' => w'.cell? ⟨P, 1, none⟩ = some (.pointer (some ⟨D, 0, none⟩)) ∧ w'.cell? ⟨w.heap.size, 4, none⟩ = some (.int .i64 a) ∧ w'.cell? ⟨w.heap.size, 5, none⟩ = some (.int .i64 b)) (assumption) (first
    | (go_at_call 103; refine Calls.mono C2.out ?_; rintro e w2 ⟨rfl, D2⟩
       have T2 : w2.cell? ⟨P, 1, none⟩ = some (.pointer (some ⟨D, 0, none⟩)) ∧ w2.cell? ⟨w.heap.size, 4, none⟩ = some (.int .i64 a) ∧ w2.cell? ⟨w.heap.size, 5, none⟩ = some (.int .i64 b) := ⟨D2.p1, cell_in D2.bx 4 _ rfl, cell_in D2.bx 5 _ rfl⟩
       have HD2 : Hid (DX w Q P w.heap.size #[.int .i64 wh, .int .i64 9, .string s, .string t, .int .i64 a, .int .i64 b] n B D (crashS S a b) (crashS S a b) w2) := D2
       clear D2))
  go_wp2
  go_ret
  exact ⟨rfl, dend HD2.out OK.out (Nat.le_succ n)⟩
set_option maxHeartbeats 4000000 in
set_option maxRecDepth 100000 in
theorem deed6_any (Q : Nat → Prop) (P n m : Nat) (S : St) (wh a b : Int) (s t : ByteArray) (w : World) (h : PairR w Q P n S) (k : S.Ok m) (hm : m < 2199023255551) (hs : s.size < 4611686018427387904) (ht : t.size < 4611686018427387904) (ha : -9223372036854775808 ≤ a ∧ a ≤ 9223372036854775807) (hb : -9223372036854775808 ≤ b ∧ b ≤ 9223372036854775807) :
    Calls Try.prog 47 #[.pointer (some ⟨P, 0, none⟩), .agg #[.int .i64 wh, .int .i64 6, .string s, .string t, .int .i64 a, .int .i64 b]] w fun e w' => e = .returned (.bool true) ∧ Deedd w Q P n m w' := by
  have hm' : m < 2199023255552 := by omega
  obtain ⟨B, D, D0⟩ := dstart h #[.int .i64 wh, .int .i64 6, .string s, .string t, .int .i64 a, .int .i64 b]
  obtain ⟨W, hW⟩ : ∃ W, w.alloc (.cells #[.int .i64 wh, .int .i64 6, .string s, .string t, .int .i64 a, .int .i64 b] 48) = W := ⟨_, rfl⟩
  rw [hW] at D0
  have HW : Hid _ := hW
  have k1 : W.cell? ⟨w.heap.size, 1, none⟩ = some (.int .i64 6) := cell_in D0.bx 1 _ rfl
  have C1 : Hid _ := dx_sn D0 k
  have p0 : W.cell? ⟨P, 0, none⟩ = some (.pointer (some ⟨B, 0, none⟩)) := D0.p0
  have HK : Hid (S.Ok m) := k
  have OK : Hid ((snS S).Ok (m + 1)) := sn_ok k
  clear h k hW D0 hs ht hm hm'
  go_enter Try.func47, Try.ntmps47
  go_upto_region 1 with fail
  rw [HW.out]
  go_upto_region 20 with (first
    | (go_at_call 97; refine Calls.mono C1.out ?_; rintro e w1 ⟨rfl, D1⟩
       have HD1 : Hid (DX w Q P w.heap.size #[.int .i64 wh, .int .i64 6, .string s, .string t, .int .i64 a, .int .i64 b] n B D (snS S) S w1) := D1
       clear D1))
  have C2 : Hid _ := dx_rsn HD1.out.drew HK.out
  have T0 : w1.drew.cell? ⟨P, 1, none⟩ = some (.pointer (some ⟨D, 0, none⟩)) := HD1.out.drew.p1
  clear p0 k1
  go_region_held3 (fun w' => w'.cell? ⟨P, 1, none⟩ = some (.pointer (some ⟨D, 0, none⟩))) (assumption) (first
    | (go_at_call 53; refine (dnum_any _ _).mono ?_; rintro e w' ⟨rfl, hw'⟩; subst w')
    | (go_at_call 98; refine Calls.mono C2.out ?_; rintro e w2 ⟨rfl, D2⟩
       have T2 : w2.cell? ⟨P, 1, none⟩ = some (.pointer (some ⟨D, 0, none⟩)) := D2.p1
       have HD2 : Hid (DX w Q P w.heap.size #[.int .i64 wh, .int .i64 6, .string s, .string t, .int .i64 a, .int .i64 b] n B D (snS S) (snS S) w2) := D2
       clear D2))
  go_wp2
  go_ret
  exact ⟨rfl, dend HD2.out OK.out (Nat.le_succ n)⟩
set_option maxHeartbeats 4000000 in
set_option maxRecDepth 100000 in
theorem deed10_any (Q : Nat → Prop) (P n m : Nat) (S : St) (wh a b : Int) (s t : ByteArray) (w : World) (h : PairR w Q P n S) (k : S.Ok m) (hm : m < 2199023255551) (hs : s.size < 4611686018427387904) (ht : t.size < 4611686018427387904) (ha : -9223372036854775808 ≤ a ∧ a ≤ 9223372036854775807) (hb : -9223372036854775808 ≤ b ∧ b ≤ 9223372036854775807) :
    Calls Try.prog 47 #[.pointer (some ⟨P, 0, none⟩), .agg #[.int .i64 wh, .int .i64 10, .string s, .string t, .int .i64 a, .int .i64 b]] w fun e w' => e = .returned (.bool true) ∧ Deedd w Q P n m w' := by
  have hm' : m < 2199023255552 := by omega
  obtain ⟨B, D, D0⟩ := dstart h #[.int .i64 wh, .int .i64 10, .string s, .string t, .int .i64 a, .int .i64 b]
  obtain ⟨W, hW⟩ : ∃ W, w.alloc (.cells #[.int .i64 wh, .int .i64 10, .string s, .string t, .int .i64 a, .int .i64 b] 48) = W := ⟨_, rfl⟩
  rw [hW] at D0
  have HW : Hid _ := hW
  have k1 : W.cell? ⟨w.heap.size, 1, none⟩ = some (.int .i64 10) := cell_in D0.bx 1 _ rfl
  obtain ⟨v, hv⟩ : ∃ v, v = pat b := ⟨_, rfl⟩
  have hv0 : 0 ≤ v := by rw [hv]; exact (pat_bd b).1
  have hv1 : v < 4294967296 := by rw [hv]; exact (pat_bd b).2
  have PT : Hid (∀ W, Calls Try.prog 15 #[.int .i64 b] W fun e w' => e = .returned (.int .i64 v) ∧ w' = W) := fun W => by rw [hv]; exact pattern_any b W hb.1 hb.2
  have hcv : IntKind.u32.wrap v = v := by rw [IntKind.wrap]; simp [IntKind.bits, IntKind.signed]; omega
  have C1 : Hid _ := dx_bend D0.drew k hm' s a v hv0 hv1
  have S0 : W.drew.cell? ⟨P, 0, none⟩ = some (.pointer (some ⟨B, 0, none⟩)) ∧ W.drew.cell? ⟨w.heap.size, 2, none⟩ = some (.string s) ∧ W.drew.cell? ⟨w.heap.size, 4, none⟩ = some (.int .i64 a) := ⟨D0.drew.p0, cell_in D0.drew.bx 2 _ rfl, cell_in D0.drew.bx 4 _ rfl⟩
  have b5 : W.cell? ⟨w.heap.size, 5, none⟩ = some (.int .i64 b) := cell_in D0.bx 5 _ rfl
  have HK : Hid (S.Ok m) := k
  have HM : Hid (m < 2199023255551 ∧ m < 2199023255552) := ⟨hm, hm'⟩
  have OK : Hid ((bendS S s a v).Ok (m + 1)) := bend_ok k s a v
  clear h k hW D0 hs ht hm hm' hv
  go_enter Try.func47, Try.ntmps47
  go_upto_region 1 with fail
  rw [HW.out]
  go_upto_region 31 with (first | (go_at_call 15; refine (PT.out _).mono ?_; rintro e w' ⟨rfl, hw'⟩; subst w'))
  go_region_held3 (fun w' => w'.cell? ⟨P, 0, none⟩ = some (.pointer (some ⟨B, 0, none⟩)) ∧ w'.cell? ⟨w.heap.size, 2, none⟩ = some (.string s) ∧ w'.cell? ⟨w.heap.size, 4, none⟩ = some (.int .i64 a)) (assumption) (first
    | (go_at_call 104; refine Calls.mono C1.out ?_; rintro e w1 ⟨rfl, D1⟩
       have S1 : w1.cell? ⟨P, 0, none⟩ = some (.pointer (some ⟨B, 0, none⟩)) ∧ w1.cell? ⟨w.heap.size, 2, none⟩ = some (.string s) ∧ w1.cell? ⟨w.heap.size, 4, none⟩ = some (.int .i64 a) := ⟨D1.p0, cell_in D1.bx 2 _ rfl, cell_in D1.bx 4 _ rfl⟩
       have HD1 : Hid (DX w Q P w.heap.size #[.int .i64 wh, .int .i64 10, .string s, .string t, .int .i64 a, .int .i64 b] n B D (bendS S s a v) S w1) := D1
       clear D1))
  have C2 : Hid _ := dx_rbend HD1.out.drew HK.out HM.out.2 s a v hv0 hv1
  have T0 : w1.drew.cell? ⟨P, 1, none⟩ = some (.pointer (some ⟨D, 0, none⟩)) ∧ w1.drew.cell? ⟨w.heap.size, 2, none⟩ = some (.string s) ∧ w1.drew.cell? ⟨w.heap.size, 4, none⟩ = some (.int .i64 a) := ⟨HD1.out.drew.p1, cell_in HD1.out.drew.bx 2 _ rfl, cell_in HD1.out.drew.bx 4 _ rfl⟩
  clear S0 S1 k1 b5
  go_upto_region 32 with fail
  go_region_held3 (fun w' => w'.cell? ⟨P, 1, none⟩ = some (.pointer (some ⟨D, 0, none⟩)) ∧ w'.cell? ⟨w.heap.size, 2, none⟩ = some (.string s) ∧ w'.cell? ⟨w.heap.size, 4, none⟩ = some (.int .i64 a)) (assumption) (first
    | (go_at_call 105; refine Calls.mono C2.out ?_; rintro e w2 ⟨rfl, D2⟩
       have T2 : w2.cell? ⟨P, 1, none⟩ = some (.pointer (some ⟨D, 0, none⟩)) ∧ w2.cell? ⟨w.heap.size, 2, none⟩ = some (.string s) ∧ w2.cell? ⟨w.heap.size, 4, none⟩ = some (.int .i64 a) := ⟨D2.p1, cell_in D2.bx 2 _ rfl, cell_in D2.bx 4 _ rfl⟩
       have HD2 : Hid (DX w Q P w.heap.size #[.int .i64 wh, .int .i64 10, .string s, .string t, .int .i64 a, .int .i64 b] n B D (bendS S s a v) (bendS S s a v) w2) := D2
       clear D2))
  go_wp2
  go_ret
  exact ⟨rfl, dend HD2.out OK.out (Nat.le_succ n)⟩
set_option maxHeartbeats 4000000 in
set_option maxRecDepth 100000 in
theorem deed0_any (Q : Nat → Prop) (P n m : Nat) (S : St) (wh kd a b : Int) (s t : ByteArray) (w : World) (h1 : ¬ kd = 1) (h2 : ¬ kd = 2) (h3 : ¬ kd = 3) (h4 : ¬ kd = 4) (h5 : ¬ kd = 5) (h6 : ¬ kd = 6) (h7 : ¬ kd = 7) (h8 : ¬ kd = 8) (h9 : ¬ kd = 9) (h10 : ¬ kd = 10) (h : PairR w Q P n S) (k : S.Ok m) (hm : m < 2199023255551) (hs : s.size < 4611686018427387904) (ht : t.size < 4611686018427387904) (ha : -9223372036854775808 ≤ a ∧ a ≤ 9223372036854775807) (hb : -9223372036854775808 ≤ b ∧ b ≤ 9223372036854775807) :
    Calls Try.prog 47 #[.pointer (some ⟨P, 0, none⟩), .agg #[.int .i64 wh, .int .i64 kd, .string s, .string t, .int .i64 a, .int .i64 b]] w fun e w' => e = .returned (.bool true) ∧ Deedd w Q P n m w' := by
  have hm' : m < 2199023255552 := by omega
  obtain ⟨B, D, D0⟩ := dstart h #[.int .i64 wh, .int .i64 kd, .string s, .string t, .int .i64 a, .int .i64 b]
  obtain ⟨W, hW⟩ : ∃ W, w.alloc (.cells #[.int .i64 wh, .int .i64 kd, .string s, .string t, .int .i64 a, .int .i64 b] 48) = W := ⟨_, rfl⟩
  rw [hW] at D0
  have HW : Hid _ := hW
  have k1 : W.cell? ⟨w.heap.size, 1, none⟩ = some (.int .i64 kd) := cell_in D0.bx 1 _ rfl
  have HD0 : Hid (DX w Q P w.heap.size #[.int .i64 wh, .int .i64 kd, .string s, .string t, .int .i64 a, .int .i64 b] n B D S S W) := D0
  have OK : Hid (S.Ok (m + 1)) := k.next
  clear h k hW D0 hs ht hm hm'
  go_enter Try.func47, Try.ntmps47
  go_upto_region 1 with fail
  rw [HW.out]
  go_wp2
  go_ret
  exact ⟨rfl, dend HD0.out OK.out (Nat.le_succ n)⟩
end Go.Proofs.Ytnkgfoabadjboaa
