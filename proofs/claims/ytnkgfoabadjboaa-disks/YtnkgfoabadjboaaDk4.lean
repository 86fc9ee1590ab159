/-
  The texts that a failing or bent disk makes, of the program and of the document, as they are walked. Conditions: lengths are ints; a number that bends is below 2^32.
-/
import Derived.Test.YtnkgfoabadjboaaDkP
import Derived.Deep.QuietTactic
import Derived.BigQuiet
import Derived.RegionTactic
import Derived.Deep.RegionHeld3
import Derived.ChangeAlike
import Derived.Laws.IdiomStrings
import Derived.Laws.BitsAllLaws
namespace Go.Proofs.Ytnkgfoabadjboaa
open Go.RowKit
set_option linter.unusedVariables false
set_option linter.unusedSimpArgs false
theorem i64_xor_nat (a b : Nat) (ha : a < 4294967296) (hb : b < 4294967296) : bits .xor .i64 (a : Int) (b : Int) = ((a ^^^ b : Nat) : Int) := by
  have hx : a ^^^ b < 2 ^ 32 := Nat.xor_lt_two_pow (by omega) (by omega)
  show IntKind.i64.wrap ((BitVec.ofInt 64 (a : Int) ^^^ BitVec.ofInt 64 (b : Int)).toNat : Int) = _
  rw [BitVec.toNat_xor, ofInt_u64 a (by omega), ofInt_u64 b (by omega)]
  simp [IntKind.wrap, IntKind.bits, IntKind.signed]
  omega
theorem ret_str {a b : ByteArray} (h : a = b) : Ending.returned (.string a) = .returned (.string b) := by rw [h]
def xorN (a b : Int) : Int := ((a.toNat ^^^ b.toNat : Nat) : Int)
set_option maxHeartbeats 400000 in
theorem xor_any (u v : Int) (w : World) (h0 : 0 ≤ u) (h1 : u < 4294967296) (h2 : 0 ≤ v) (h3 : v < 4294967296) :
    Calls Try.prog 140 #[.int .i64 u, .int .i64 v] w fun e w' => e = .returned (.int .i64 (xorN u v)) ∧ w' = w := by
  have E : bits BinOp.xor IntKind.i64 u v = xorN u v := by
    have := i64_xor_nat u.toNat v.toNat (by omega) (by omega)
    rw [Int.toNat_of_nonneg h0, Int.toNat_of_nonneg h2] at this
    exact this
  have HE : Hid _ := E
  clear E
  go_enter Try.func140, Try.ntmps140
  go_wp2
  go_ret
  exact ⟨ret_int HE.out, rfl⟩
def byt (s : ByteArray) (k : Nat) : Int := ((s.data.toList.getD k 0).toNat : Int)
theorem byt_of (s : ByteArray) (k : Nat) (h : k < s.size) : ((s[k].toNat : Nat) : Int) = byt s k := by
  unfold byt
  have : k < s.data.toList.length := by simpa using h
  rw [List.getD_eq_getElem?_getD, List.getElem?_eq_getElem this]
  rfl
theorem byt_lt (s : ByteArray) (k : Nat) : 0 ≤ byt s k ∧ byt s k < 256 := by
  unfold byt; have := (s.data.toList.getD k 0).toNat_lt; omega
def wordN (s : ByteArray) (k : Nat) : Int := ((byt s k * 256 + byt s (k + 1)) * 256 + byt s (k + 2)) * 256 + byt s (k + 3)
theorem wordN_lt (s : ByteArray) (k : Nat) : 0 ≤ wordN s k ∧ wordN s k < 4294967296 := by
  unfold wordN
  have := byt_lt s k; have := byt_lt s (k + 1); have := byt_lt s (k + 2); have := byt_lt s (k + 3)
  omega
theorem word_eq (a b c d : Int) (ha : 0 ≤ a ∧ a < 256) (hb : 0 ≤ b ∧ b < 256) (hc : 0 ≤ c ∧ c < 256) (hd : 0 ≤ d ∧ d < 256) :
    wrap64 (wrap64 (wrap64 (wrap64 (wrap64 (wrap64 (wrap64 a * 256) + wrap64 b) * 256) + wrap64 c) * 256) + wrap64 d) = ((a * 256 + b) * 256 + c) * 256 + d := by
  unfold wrap64
  omega
set_option maxHeartbeats 1000000 in
set_option maxRecDepth 100000 in
theorem word_any (s : ByteArray) (k : Int) (w : World) (hs : s.size ≤ maxLen) (h0 : 0 ≤ k) (h1 : k + 3 < s.size) :
    Calls Try.prog 147 #[.string s, .int .i64 k] w fun e w' => e = .returned (.int .i64 (wordN s k.toNat)) ∧ ∃ n, w' = w.drewN n := by
  unfold maxLen at hs
  have : (0:Int) ≤ k + 1 := by omega
  have : (0:Int) ≤ k + 2 := by omega
  have : (0:Int) ≤ k + 3 := by omega
  have : k < s.size := by omega
  have : k + 1 < s.size := by omega
  have : k + 2 < s.size := by omega
  have : k ≤ 9223372036854775807 := by omega
  have : k + 1 ≤ 9223372036854775807 := by omega
  have : k + 2 ≤ 9223372036854775807 := by omega
  have : k + 3 ≤ 9223372036854775807 := by omega
  go_enter Try.func147, Try.ntmps147
  go_wp2
  go_quiet (fail)
  go_wp2
  go_ret
  refine ⟨ret_int ?_, nq, rfl⟩
  simp only [byt_of]
  rw [word_eq _ _ _ _ (byt_lt s _) (byt_lt s _) (byt_lt s _) (byt_lt s _), show (k + 1).toNat = k.toNat + 1 by omega, show (k + 2).toNat = k.toNat + 2 by omega, show (k + 3).toNat = k.toNat + 3 by omega]
  rfl
/-- byte k of four -/
def byteAt (v : Int) (k : Nat) : UInt8 := UInt8.ofNat (v.toNat / 256 ^ (3 - k) % 256)
theorem byteAt_nat (v : Int) (k : Nat) : (byteAt v k).toNat = v.toNat / 256 ^ (3 - k) % 256 := by
  unfold byteAt; rw [UInt8.toNat_ofNat']; omega
def fourB (v : Int) : ByteArray := ⟨#[byteAt v 0, byteAt v 1, byteAt v 2, byteAt v 3]⟩
set_option maxHeartbeats 1000000 in
set_option maxRecDepth 100000 in
theorem bytes_any (v : Int) (w : World) (h0 : 0 ≤ v) (h1 : v < 4294967296) :
    Calls Try.prog 146 #[.int .i64 v] w fun e w' => e = .returned (.string (fourB v)) ∧ Below w.heap.size w w' := by
  have hcv : (convert 143 9 (.slice (some ⟨w.heap.size, 0, none⟩) 4 4)).run Try.prog (w.alloc (.cells #[.int .u8 (v / 16777216), .int .u8 (v / 65536 % 256), .int .u8 (v / 256 % 256), .int .u8 (v % 256)] 5)) = .ok (.string (fourB v)) (w.alloc (.cells #[.int .u8 (v / 16777216), .int .u8 (v / 65536 % 256), .int .u8 (v / 256 % 256), .int .u8 (v % 256)] 5)) := by
    refine run_convert_bytes_back (P := Try.prog) _ 143 9 5 ⟨w.heap.size, 0, none⟩ 4 [byteAt v 0, byteAt v 1, byteAt v 2, byteAt v 3] (by kernel_rfl) (by kernel_rfl) (by kernel_rfl) ?_
    intro j hj
    have b0 := byteAt_nat v 0
    have b1 := byteAt_nat v 1
    have b2 := byteAt_nat v 2
    have b3 := byteAt_nat v 3
    match j, hj with
    | 0, _ => simp [Addr.add]; omega
    | 1, _ => simp [Addr.add]; omega
    | 2, _ => simp [Addr.add]; omega
    | 3, _ => simp [Addr.add]; omega
  go_enter Try.func146, Try.ntmps146
  go_wp2
  go_ret
  exact ⟨rfl, (Below.refl _ _).alloc (Nat.le_refl _) _⟩
/-! torn -/
def tornB (t s : ByteArray) (n : Int) : ByteArray := t.extract 0 (min n.toNat t.size) ++ s.extract (min n.toNat t.size) s.size
set_option maxHeartbeats 400000 in
theorem torn_any (b : Nat) (t s : ByteArray) (n : Int) (w : World) (ht : t.size ≤ maxLen) (hs : s.size ≤ maxLen) (h0 : w.cell? ⟨b, 0, none⟩ = some (.string t)) (h1 : w.cell? ⟨b, 1, none⟩ = some (.string s)) :
    Calls Try.prog 132 #[.pointer (some ⟨b, 0, none⟩), .int .i64 n] w fun e w' => e = .returned (.string (tornB t s n)) ∧ ∃ n, w' = w.drewN n := by
  obtain ⟨m, hm⟩ : ∃ m, m = min n.toNat t.size := ⟨_, rfl⟩
  have E : tornB t s n = t.extract 0 m ++ s.extract m s.size := by unfold tornB; rw [hm]
  have E2 : s.size ≤ m → s.extract m s.size = ByteArray.empty := by
    intro h
    apply ByteArray.ext; simp [ByteArray.data_extract]; omega
  rw [E]
  have HE : Hid _ := E2
  clear E E2
  have hmt : (m : Int) ≤ (t.size : Int) := by omega
  unfold maxLen at ht hs
  have hm9 : (m : Int) ≤ 9223372036854775807 := by omega
  have hm00 : (0 : Int) ≤ (m : Int) := by omega
  by_cases hn : n < 0
  · have e0 : m = 0 := by omega
    subst e0
    clear hm
    by_cases hlt : s.size = 0
    · have E3 := HE.out (by omega)
      rw [E3]
      have hlt' : (s.size : Int) = 0 := by omega
      go_enter Try.func132, Try.ntmps132
      go_wp2
      go_ret
      exact ⟨ret_str (by simp), 0, rfl⟩
    · have hlt' : ¬ (s.size : Int) ≤ 0 := by omega
      have hlt2 : (0 : Int) ≤ (s.size : Int) := by omega
      go_enter Try.func132, Try.ntmps132
      go_wp2
      go_quiet (fail)
      go_wp2
      go_ret
      exact ⟨ret_str (by simp), nq, rfl⟩
  · by_cases hnt : n ≤ (t.size : Int)
    · have e0 : n = (m : Int) := by omega
      subst e0
      clear hm
      by_cases hlt : (s.size : Int) ≤ (m : Int)
      · have E3 := HE.out (by omega)
        rw [E3]
        clear HE E3
        go_enter Try.func132, Try.ntmps132
        go_wp2
        go_ret
        exact ⟨ret_str (by simp), 0, rfl⟩
      · go_enter Try.func132, Try.ntmps132
        go_wp2
        go_quiet (fail)
        go_wp2
        go_ret
        exact ⟨ret_str (by simp), nq, rfl⟩
    · have e0 : m = t.size := by omega
      subst e0
      clear hm
      by_cases hlt : (s.size : Int) ≤ (t.size : Int)
      · have E3 := HE.out (by omega)
        rw [E3]
        clear HE E3
        go_enter Try.func132, Try.ntmps132
        go_wp2
        go_ret
        exact ⟨ret_str (by simp), 0, rfl⟩
      · go_enter Try.func132, Try.ntmps132
        go_wp2
        go_quiet (fail)
        go_wp2
        go_ret
        exact ⟨ret_str (by simp), nq, rfl⟩
end Go.Proofs.Ytnkgfoabadjboaa
