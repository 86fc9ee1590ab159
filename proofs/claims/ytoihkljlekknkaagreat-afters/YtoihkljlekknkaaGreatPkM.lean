/-
  Mix, and the row of an epoch, as plain functions: what both sides are held against; each row is some order of all samples. No conditions but those that each law names.
-/
import Derived.WalkKit
namespace Go.Proofs.YtoihkljlekknkaaGreat
set_option linter.unusedVariables false
/-- exclusive or of two numbers that are not below 0 -/
def XR (a b : Int) : Int := ((a.toNat ^^^ b.toNat : Nat) : Int)
/-- a product modulo 2^32 -/
def TM (a b : Int) : Int := a * b % 4294967296
def MIX (x : Int) : Int :=
 let a := XR x (x / 65536)
 let b := TM a 2246822507
 let c := XR b (b / 8192)
 let d := TM c 3266489909
 XR d (d / 65536)
theorem XR_bd (a b : Int) (h0 : 0 ≤ a) (h1 : a < 4294967296) (h2 : 0 ≤ b) (h3 : b < 4294967296) : 0 ≤ XR a b ∧ XR a b < 4294967296 := by
 unfold XR
 have hx : a.toNat ^^^ b.toNat < 2 ^ 32 := Nat.xor_lt_two_pow (by omega) (by omega)
 omega
theorem TM_bd (a b : Int) : 0 ≤ TM a b ∧ TM a b < 4294967296 := by unfold TM; omega
theorem MIX_bd (x : Int) (h0 : 0 ≤ x) (h1 : x < 4294967296) : 0 ≤ MIX x ∧ MIX x < 4294967296 := by
 unfold MIX
 have t := TM_bd (XR (TM (XR x (x / 65536)) 2246822507) (TM (XR x (x / 65536)) 2246822507 / 8192)) 3266489909
 exact XR_bd _ _ t.1 t.2 (by omega) (by omega)
/-- the document's product in two halves -/
theorem times_eq (a b : Int) (h0 : 0 ≤ a) (h1 : a < 4294967296) (h2 : 0 ≤ b) (h3 : b < 4294967296) : (a / 65536 * b % 65536 * 65536 + a % 65536 * b) % 4294967296 = TM a b := by
 unfold TM
 have e : a * b = a / 65536 * b * 65536 + a % 65536 * b := by
  have h : a = a / 65536 * 65536 + a % 65536 := by omega
  conv => lhs; rw [h]
  rw [Int.add_mul, Int.mul_assoc, Int.mul_comm 65536 b, ← Int.mul_assoc]
 rw [e]
 generalize a / 65536 * b = p
 generalize a % 65536 * b = q
 omega
/-! the row -/
def swp (l : List Int) (i j : Nat) : List Int := (l.set i (l.getD j 0)).set j (l.getD i 0)
theorem swp_len (l : List Int) (i j : Nat) : (swp l i j).length = l.length := by simp [swp]
/-- which place is changed with place i -/
def JJ (key : Int) (i : Nat) : Nat := (MIX ((key + i) % 4294967296) % ((i : Int) + 1)).toNat
theorem JJ_le (key : Int) (i : Nat) : JJ key i ≤ i := by
 unfold JJ
 have h1 := Int.emod_lt_of_pos (MIX ((key + i) % 4294967296)) (show (0 : Int) < (i : Int) + 1 by omega)
 omega
theorem JJ_eq (key : Int) (i : Nat) : ((JJ key i : Nat) : Int) = MIX ((key + i) % 4294967296) % ((i : Int) + 1) := Int.toNat_of_nonneg (Int.emod_nonneg _ (by omega))
def perm (key : Int) : Nat → List Int → List Int
 | 0, l => l
 | i + 1, l => perm key i (swp l (i + 1) (JJ key (i + 1)))
theorem perm_succ (key : Int) (i : Nat) (l : List Int) : perm key (i + 1) l = perm key i (swp l (i + 1) (JJ key (i + 1))) := rfl
theorem perm_len (key : Int) (i : Nat) (l : List Int) : (perm key i l).length = l.length := by
 induction i generalizing l with
 | zero => rfl
 | succ i ih => rw [perm_succ, ih, swp_len]
def firstN (n : Nat) : List Int := (List.range n).map Int.ofNat
theorem firstN_len (n : Nat) : (firstN n).length = n := by simp [firstN]
theorem firstN_succ (n : Nat) : firstN (n + 1) = firstN n ++ [(n : Int)] := by simp [firstN, List.range_succ]
def ROW (key : Int) (n : Nat) : List Int := perm key (n - 1) (firstN n)
theorem ROW_len (key : Int) (n : Nat) : (ROW key n).length = n := by unfold ROW; rw [perm_len, firstN_len]
theorem swp_perm (l : List Int) (i j : Nat) (hi : i < l.length) (hj : j < l.length) : (swp l i j).Perm l := by
 unfold swp
 rw [List.getD_eq_getElem?_getD, List.getD_eq_getElem?_getD, List.getElem?_eq_getElem hi, List.getElem?_eq_getElem hj]
 exact List.set_set_perm hi hj
theorem perm_perm (key : Int) (i : Nat) (l : List Int) (hi : i < l.length) : (perm key i l).Perm l := by
 induction i generalizing l with
 | zero => exact List.Perm.refl _
 | succ i ih =>
   rw [perm_succ]
   have hj := JJ_le key (i + 1)
   exact (ih _ (by rw [swp_len]; omega)).trans (swp_perm l _ _ hi (by omega))
theorem firstN_nodup (n : Nat) : (firstN n).Nodup := by
 unfold firstN
 rw [List.nodup_iff_pairwise_ne, List.pairwise_map]
 exact (List.nodup_iff_pairwise_ne.1 List.nodup_range).imp fun h g => h (Int.ofNat.inj g)
theorem ROW_perm (key : Int) (n : Nat) (hn : 0 < n) : (ROW key n).Perm (firstN n) := perm_perm key _ _ (by rw [firstN_len]; omega)
theorem ROW_mem (key : Int) (n : Nat) (hn : 0 < n) (i : Nat) (hi : i < n) : 0 ≤ (ROW key n).getD i 0 ∧ (ROW key n).getD i 0 < n := by
 have h : i < (ROW key n).length := by rw [ROW_len]; exact hi
 rw [List.getD_eq_getElem?_getD, List.getElem?_eq_getElem h]
 have m := (ROW_perm key n hn).mem_iff.1 (List.getElem_mem h)
 simp only [firstN, List.mem_map, List.mem_range] at m
 obtain ⟨a, ha, e⟩ := m
 simp only [Option.getD_some]
 rw [← e]
 simp only [Int.ofNat_eq_natCast]
 omega
theorem ROW_inj (key : Int) (n : Nat) (hn : 0 < n) (i j : Nat) (hi : i < n) (hj : j < n) (h : (ROW key n).getD i 0 = (ROW key n).getD j 0) : i = j := by
 have h1 : i < (ROW key n).length := by rw [ROW_len]; exact hi
 have h2 : j < (ROW key n).length := by rw [ROW_len]; exact hj
 rw [List.getD_eq_getElem?_getD, List.getElem?_eq_getElem h1, List.getD_eq_getElem?_getD, List.getElem?_eq_getElem h2] at h
 have nd : (ROW key n).Nodup := (ROW_perm key n hn).nodup_iff.2 (firstN_nodup n)
 exact (List.getElem_inj nd).1 (by simpa using h)
end Go.Proofs.YtoihkljlekknkaaGreat
