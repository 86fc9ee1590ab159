/-
  The document's torn text, byte by byte: it is the program's. Condition: lengths are ints.
-/
import Derived.Test.YtnkgfoabadjboaaDk4
namespace Go.Proofs.Ytnkgfoabadjboaa
open Go.RowKit
set_option linter.unusedVariables false
set_option linter.unusedSimpArgs false
theorem ba_ext {a b : ByteArray} (h : a.data.toList = b.data.toList) : a = b := by
  apply ByteArray.ext; exact Array.toList_inj.1 h
theorem ext_list (s : ByteArray) (i j : Nat) : (s.extract i j).data.toList = (s.data.toList.drop i).take (j - i) := by
  rw [ByteArray.data_extract, Array.toList_extract]
theorem app_list (a b : ByteArray) : (a ++ b).data.toList = a.data.toList ++ b.data.toList := by
  rw [ByteArray.data_append, Array.toList_append]
theorem tornB_list (t s : ByteArray) (n : Int) : (tornB t s n).data.toList = t.data.toList.take (min n.toNat t.size) ++ s.data.toList.drop (min n.toNat t.size) := by
  unfold tornB
  rw [app_list, ext_list, ext_list]
  simp
  rw [List.take_of_length_le (by simp)]
theorem ba_size (s : ByteArray) : s.size = s.data.toList.length := by simp
theorem tornB_size (t s : ByteArray) (n : Int) : (tornB t s n).size = max (min n.toNat t.size) s.size := by
  rw [ba_size, tornB_list]
  simp
  omega
theorem tl_lo (t s : List UInt8) (m k : Nat) (hm : m ≤ t.length) (hk : k < m) : (t.take m ++ s.drop m).take (k + 1) = (t.take m ++ s.drop m).take k ++ (t.drop k).take 1 := by
  rw [List.take_append_of_le_length (by simp; omega), List.take_append_of_le_length (by simp; omega), List.take_take, List.take_take, Nat.min_eq_left (by omega), Nat.min_eq_left (by omega)]
  rw [← List.take_add]
theorem tl_hi (t s : List UInt8) (m k : Nat) (hm : m ≤ t.length) (hk : m ≤ k) : (t.take m ++ s.drop m).take (k + 1) = (t.take m ++ s.drop m).take k ++ (s.drop k).take 1 := by
  rw [List.take_append, List.take_append, List.take_of_length_le (by simp; omega), List.take_of_length_le (l := t.take m) (i := k) (by simp; omega), List.length_take, Nat.min_eq_left hm]
  rw [List.append_assoc, show k + 1 - m = (k - m) + 1 by omega, List.take_add, List.drop_drop, show m + (k - m) = k by omega]
theorem torn_lo (t s : ByteArray) (n : Int) (k : Nat) (h1 : (k : Int) < n) (h2 : k < t.size) : (tornB t s n).extract 0 k ++ t.extract k (k + 1) = (tornB t s n).extract 0 (k + 1) := by
  apply ba_ext
  rw [app_list, ext_list, ext_list, ext_list, tornB_list]
  simp only [List.drop_zero, Nat.sub_zero, show k + 1 - k = 1 by omega]
  rw [tl_lo _ _ _ _ (by simp; omega) (by omega)]
theorem torn_hi (t s : ByteArray) (n : Int) (k : Nat) (h1 : ¬ ((k : Int) < n ∧ k < t.size)) : (tornB t s n).extract 0 k ++ s.extract k (k + 1) = (tornB t s n).extract 0 (k + 1) := by
  apply ba_ext
  rw [app_list, ext_list, ext_list, ext_list, tornB_list]
  simp only [List.drop_zero, Nat.sub_zero, show k + 1 - k = 1 by omega]
  rw [tl_hi _ _ _ _ (by simp; omega) (by omega)]
theorem ext_all (s : ByteArray) (k : Nat) (h : s.size ≤ k) : s.extract 0 k = s := by
  apply ba_ext
  rw [ext_list]
  simp only [List.drop_zero, Nat.sub_zero]
  exact List.take_of_length_le (by rw [← ba_size]; exact h)
theorem ext_zero (s : ByteArray) : s.extract 0 0 = ByteArray.empty := by
  apply ba_ext
  rw [ext_list]
  rfl
theorem ext_size (s : ByteArray) (k : Nat) (h : k ≤ s.size) : (s.extract 0 k).size = k := by
  rw [ba_size, ext_list]; simp; omega
set_option maxHeartbeats 1000000 in
theorem tornText_any (t s : ByteArray) (n : Int) (w : World) (ht : t.size < 4611686018427387904) (hs : s.size < 4611686018427387904) :
    Calls Try.prog 134 #[.string t, .string s, .int .i64 n] w fun e w' => e = .returned (.string (tornB t s n)) ∧ w' = w := by
  obtain ⟨T, hT⟩ : ∃ T, T = tornB t s n := ⟨_, rfl⟩
  have HZ : Hid _ := tornB_size t s n
  rw [← hT] at HZ ⊢
  have HT : Hid _ := hT
  clear hT
  go_enter Try.func134, Try.ntmps134
  go_wp2
  go_loop [7, 8] (fun sv iv => ∃ (k : Nat) (p : ByteArray), k ≤ T.size ∧ iv = .int .i64 k ∧ sv = .string p ∧ p.size = k ∧ Hid (p = T.extract 0 k)) (fun _ iv => t.size + s.size - (intOf iv).toNat)
  case atStart => exact ⟨0, ByteArray.empty, by omega, rfl, rfl, rfl, (ext_zero T).symm⟩
  case round =>
    obtain ⟨k, p, hk, rfl, rfl, hp, HP⟩ := hrel
    have hz := HZ.out
    by_cases hA : (k : Int) < n ∧ k < t.size
    · obtain ⟨h1, h2⟩ := hA
      have h2' : (k : Int) < (t.size : Int) := by omega
      have h3 : k + 1 ≤ T.size := by omega
      have R : Hid (p ++ t.extract k (k + 1) = T.extract 0 (k + 1)) := by
        show _ = _
        rw [HP.out, HT.out]; exact torn_lo t s n k h1 h2
      have R2 : Hid ((p ++ t.extract k (k + 1)).size = k + 1) := by
        show _ = _
        rw [R.out]; exact ext_size T _ h3
      clear hz
      go_wp2
      go_round
      case rel => exact ⟨k + 1, _, h3, by go_num, rfl, R2.out, R.out⟩
      case measure => simp [intOf]; omega
    · by_cases h3 : k < s.size
      · have h3' : (k : Int) < (s.size : Int) := by omega
        have h4 : k + 1 ≤ T.size := by omega
        have R : Hid (p ++ s.extract k (k + 1) = T.extract 0 (k + 1)) := by
          show _ = _
          rw [HP.out, HT.out]; exact torn_hi t s n k hA
        have R2 : Hid ((p ++ s.extract k (k + 1)).size = k + 1) := by
          show _ = _
          rw [R.out]; exact ext_size T _ h4
        clear hz
        by_cases h5 : k < t.size
        · have h5' : (k : Int) < (t.size : Int) := by omega
          have h6 : ¬ (k : Int) < n := by omega
          clear hA
          go_wp2
          go_round
          case rel => exact ⟨k + 1, _, h4, by go_num, rfl, R2.out, R.out⟩
          case measure => simp [intOf]; omega
        · have h5' : ¬ (k : Int) < (t.size : Int) := by omega
          clear hA
          by_cases h6 : (k : Int) < n
          all_goals
            go_wp2
            go_round
            case rel => exact ⟨k + 1, _, h4, by go_num, rfl, R2.out, R.out⟩
            case measure => simp [intOf]; omega
      · have h3' : ¬ (k : Int) < (s.size : Int) := by omega
        have R : Hid (p = T) := by
          show _ = _
          rw [HP.out]; exact ext_all T k (by omega)
        clear hz
        by_cases h5 : k < t.size
        · have h5' : (k : Int) < (t.size : Int) := by omega
          have h6 : ¬ (k : Int) < n := by omega
          clear hA
          go_wp2
          go_ret
          exact ⟨ret_str R.out, rfl⟩
        · have h5' : ¬ (k : Int) < (t.size : Int) := by omega
          clear hA
          go_wp2
          go_ret
          exact ⟨ret_str R.out, rfl⟩
end Go.Proofs.Ytnkgfoabadjboaa
