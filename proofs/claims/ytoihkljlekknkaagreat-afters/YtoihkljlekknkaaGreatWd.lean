/-
  A number out of four bytes, and four bytes out of a number, by the document. Conditions: lengths are ints; the number is 0 to 2^32 - 1.
-/
import Derived.Test.YtoihkljlekknkaaGreatBits
import Derived.Deep.QuietTactic
import Derived.BigQuiet
import Derived.RegionTactic
import Derived.Deep.RegionHeld3
import Derived.ChangeAlike
import Derived.Laws.IdiomStrings
import Derived.Laws.BitsAllLaws
namespace Go.Proofs.YtoihkljlekknkaaGreat
open Go.RowKit
set_option linter.unusedVariables false
set_option linter.unusedSimpArgs false
theorem i64_xor_nat (a b : Nat) (ha : a < 4294967296) (hb : b < 4294967296) : bits .xor .i64 (a : Int) (b : Int) = ((a ^^^ b : Nat) : Int) := by
 have hx : a ^^^ b < 2 ^ 32 := Nat.xor_lt_two_pow (by omega) (by omega)
 show IntKind.i64.wrap ((BitVec.ofInt 64 (a : Int) ^^^ BitVec.ofInt 64 (b : Int)).toNat : Int) = _
 rw [BitVec.toNat_xor, ofInt_u64 a (by omega), ofInt_u64 b (by omega)]
 simp [IntKind.wrap, IntKind.bits, IntKind.signed]
 omega
theorem ret_str {a b : ByteArray} (h : a = b) : Ending.returned (.string a) = .returned (.string b) := by rw [h]
def xorN (a b : Int) : Int := ((a.toNat ^^^ b.toNat : Nat) : Int)
set_option maxHeartbeats 400000 in
theorem xor_any (u v : Int) (w : World) (h0 : 0 ≤ u) (h1 : u < 4294967296) (h2 : 0 ≤ v) (h3 : v < 4294967296) :
 Calls Tryz.prog 70 #[.int .i64 u, .int .i64 v] w fun e w' => e = .returned (.int .i64 (xorN u v)) ∧ w' = w := by
 have E : bits BinOp.xor IntKind.i64 u v = xorN u v := by
  have := i64_xor_nat u.toNat v.toNat (by omega) (by omega)
  rw [Int.toNat_of_nonneg h0, Int.toNat_of_nonneg h2] at this
  exact this
 have HE : Hid _ := E
 clear E
 go_enter Tryz.func70, Tryz.ntmps70
 go_wp2
 go_ret
 exact ⟨ret_int HE.out, rfl⟩
def byt (s : ByteArray) (k : Nat) : Int := ((s.data.toList.getD k 0).toNat : Int)
theorem byt_of (s : ByteArray) (k : Nat) (h : k < s.size) : ((s[k].toNat : Nat) : Int) = byt s k := by
 unfold byt
 have : k < s.data.toList.length := by simpa using h
 rw [List.getD_eq_getElem?_getD, List.getElem?_eq_getElem this]
 rfl
theorem byt_lt (s : ByteArray) (k : Nat) : 0 ≤ byt s k ∧ byt s k < 256 := by
 unfold byt; have := (s.data.toList.getD k 0).toNat_lt; omega
def wordN (s : ByteArray) (k : Nat) : Int := ((byt s k * 256 + byt s (k + 1)) * 256 + byt s (k + 2)) * 256 + byt s (k + 3)
theorem wordN_lt (s : ByteArray) (k : Nat) : 0 ≤ wordN s k ∧ wordN s k < 4294967296 := by
 unfold wordN
 have := byt_lt s k; have := byt_lt s (k + 1); have := byt_lt s (k + 2); have := byt_lt s (k + 3)
 omega
theorem word_eq (a b c d : Int) (ha : 0 ≤ a ∧ a < 256) (hb : 0 ≤ b ∧ b < 256) (hc : 0 ≤ c ∧ c < 256) (hd : 0 ≤ d ∧ d < 256) :
 wrap64 (wrap64 (wrap64 (wrap64 (wrap64 (wrap64 (wrap64 a * 256) + wrap64 b) * 256) + wrap64 c) * 256) + wrap64 d) = ((a * 256 + b) * 256 + c) * 256 + d := by
 unfold wrap64
 omega
set_option maxHeartbeats 1000000 in
set_option maxRecDepth 100000 in
theorem word_any (s : ByteArray) (k : Int) (w : World) (hs : s.size ≤ maxLen) (h0 : 0 ≤ k) (h1 : k + 3 < s.size) :
 Calls Tryz.prog 105 #[.string s, .int .i64 k] w fun e w' => e = .returned (.int .i64 (wordN s k.toNat)) ∧ ∃ n, w' = w.drewN n := by
 unfold maxLen at hs
 have : (0:Int) ≤ k + 1 := by omega
 have : (0:Int) ≤ k + 2 := by omega
 have : (0:Int) ≤ k + 3 := by omega
 have : k < s.size := by omega
 have : k + 1 < s.size := by omega
 have : k + 2 < s.size := by omega
 have : k ≤ 9223372036854775807 := by omega
 have : k + 1 ≤ 9223372036854775807 := by omega
 have : k + 2 ≤ 9223372036854775807 := by omega
 have : k + 3 ≤ 9223372036854775807 := by omega
 go_enter Tryz.func105, Tryz.ntmps105
 go_wp2
 go_quiet (fail)
 go_wp2
 go_ret
 refine ⟨ret_int ?_, nq, rfl⟩
 simp only [byt_of]
 rw [word_eq _ _ _ _ (byt_lt s _) (byt_lt s _) (byt_lt s _) (byt_lt s _), show (k + 1).toNat = k.toNat + 1 by omega, show (k + 2).toNat = k.toNat + 2 by omega, show (k + 3).toNat = k.toNat + 3 by omega]
 rfl
/-- byte k of four -/
def byteAt (v : Int) (k : Nat) : UInt8 := UInt8.ofNat (v.toNat / 256 ^ (3 - k) % 256)
theorem byteAt_nat (v : Int) (k : Nat) : (byteAt v k).toNat = v.toNat / 256 ^ (3 - k) % 256 := by
 unfold byteAt; rw [UInt8.toNat_ofNat']; omega
def fourB (v : Int) : ByteArray := ⟨#[byteAt v 0, byteAt v 1, byteAt v 2, byteAt v 3]⟩
set_option maxHeartbeats 1000000 in
set_option maxRecDepth 100000 in
theorem bytes_any (v : Int) (w : World) (h0 : 0 ≤ v) (h1 : v < 4294967296) :
 Calls Tryz.prog 48 #[.int .i64 v] w fun e w' => e = .returned (.string (fourB v)) ∧ Below w.heap.size w w' := by
 have hcv : (convert 73 9 (.slice (some ⟨w.heap.size, 0, none⟩) 4 4)).run Tryz.prog (w.alloc (.cells #[.int .u8 (v / 16777216), .int .u8 (v / 65536 % 256), .int .u8 (v / 256 % 256), .int .u8 (v % 256)] 5)) = .ok (.string (fourB v)) (w.alloc (.cells #[.int .u8 (v / 16777216), .int .u8 (v / 65536 % 256), .int .u8 (v / 256 % 256), .int .u8 (v % 256)] 5)) := by
  refine run_convert_bytes_back (P := Tryz.prog) _ 73 9 5 ⟨w.heap.size, 0, none⟩ 4 [byteAt v 0, byteAt v 1, byteAt v 2, byteAt v 3] (by kernel_rfl) (by kernel_rfl) (by kernel_rfl) ?_
  intro j hj
  have b0 := byteAt_nat v 0
  have b1 := byteAt_nat v 1
  have b2 := byteAt_nat v 2
  have b3 := byteAt_nat v 3
  match j, hj with
  | 0, _ => simp [Addr.add]; omega
  | 1, _ => simp [Addr.add]; omega
  | 2, _ => simp [Addr.add]; omega
  | 3, _ => simp [Addr.add]; omega
 go_enter Tryz.func48, Tryz.ntmps48
 go_wp2
 go_ret
 exact ⟨rfl, (Below.refl _ _).alloc (Nat.le_refl _) _⟩
end Go.Proofs.YtoihkljlekknkaaGreat
