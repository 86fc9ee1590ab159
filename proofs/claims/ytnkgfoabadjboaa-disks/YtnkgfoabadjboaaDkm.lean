/-
  The caller's marks, and the numbers that pick. Conditions: fewer than 2^62 lists.
-/
import Derived.Test.YtnkgfoabadjboaaDk6
import Derived.Deep.Cut
import Derived.Deep.RegionHeld3
import Derived.Laws.OwnMore
import Derived.Lib.SmallJoins
namespace Go.Proofs.Ytnkgfoabadjboaa
open Go.RowKit
set_option linter.unusedVariables false
set_option linter.unusedSimpArgs false
/-- what the caller writes into list k -/
def markB (k : Nat) : ByteArray := ⟨#[35, UInt8.ofNat (k / 256 % 256), UInt8.ofNat (k % 256)]⟩
set_option maxHeartbeats 1000000 in
set_option maxRecDepth 100000 in
theorem mark_any (k : Nat) (w : World) (hk : k < 4611686018427387904) :
    Calls Try.prog 106 #[.int .i64 (k : Int)] w fun e w' => e = .returned (.string (markB k)) ∧ Below w.heap.size w w' := by
  have hw : IntKind.u8.wrap ((k : Int) / 256) = (k : Int) / 256 % 256 := by rw [IntKind.wrap]; simp [IntKind.bits, IntKind.signed]
  have hcv : (convert 143 9 (.slice (some ⟨w.heap.size, 0, none⟩) 3 3)).run Try.prog (w.alloc (.cells #[.int .u8 35, .int .u8 ((k : Int) / 256 % 256), .int .u8 ((k : Int) % 256)] 5)) = .ok (.string (markB k)) (w.alloc (.cells #[.int .u8 35, .int .u8 ((k : Int) / 256 % 256), .int .u8 ((k : Int) % 256)] 5)) := by
    refine run_convert_bytes_back (P := Try.prog) _ 143 9 5 ⟨w.heap.size, 0, none⟩ 3 [35, UInt8.ofNat (k / 256 % 256), UInt8.ofNat (k % 256)] (by kernel_rfl) (by kernel_rfl) (by kernel_rfl) ?_
    intro j hj
    match j, hj with
    | 0, _ => simp [Addr.add]
    | 1, _ => simp [Addr.add]
    | 2, _ => simp [Addr.add]
  go_enter Try.func106, Try.ntmps106
  go_wp2
  go_ret
  exact ⟨rfl, (Below.refl _ _).alloc (Nat.le_refl _) _⟩
theorem dnum_any (n : Int) (w : World) : Calls Try.prog 53 #[.int .i64 n] w fun e w' => e = .returned (.int .i64 n) ∧ w' = w := by
  go_enter Try.func53, Try.ntmps53
  go_wp2
  go_ret
  exact ⟨rfl, rfl⟩
/-- which of two the raw number speaks of -/
theorem dpick_any (c : Int) (w : World) (h0 : -9223372036854775808 ≤ c) (h1 : c ≤ 9223372036854775807) :
    Calls Try.prog 48 #[.int .i64 c, .int .i64 2] w fun e w' => ∃ i : Nat, i < 2 ∧ e = .returned (.int .i64 (i : Int)) ∧ w' = w := by
  by_cases h : c < 0
  · have hn : 0 ≤ -(c + 1) := by omega
    go_enter Try.func48, Try.ntmps48
    go_wp2
    go_ret
    have e : (c + 1).tmod 2 = -(-(c + 1) % 2) := by
      have e1 : c + 1 = -(-(c + 1)) := by omega
      rw [e1, Int.neg_tmod, Int.tmod_eq_emod_of_nonneg hn, ← e1]
    exact ⟨(-(c + 1) % 2).toNat, by omega, ret_int (by omega), rfl⟩
  · go_enter Try.func48, Try.ntmps48
    go_wp2
    go_ret
    exact ⟨(c % 2).toNat, by omega, ret_int (by omega), rfl⟩
end Go.Proofs.Ytnkgfoabadjboaa
