/-
  Numbers put behind a text, of the program. Conditions: the patterns are 0 to 2^32 - 1; fewer than 2^20 bytes.
-/
import Derived.Test.YtoihkljlekknkaaGreatAr8
import Derived.Test.YtoihkljlekknkaaGreatAp18
namespace Go.Proofs.YtoihkljlekknkaaGreat
open Go.RowKit
open Go.Joins (cell_of_block unfrozen_of_block)
set_option linter.unusedVariables false
set_option linter.unusedSimpArgs false
def bvs (t : ByteArray) : List Value := t.data.toList.map fun b => Value.int .u8 (b.toNat : Int)
theorem bvs_len (t : ByteArray) : (bvs t).length = t.size := by simp [bvs]
theorem bvs_app (t u : ByteArray) : bvs t ++ bvs u = bvs (t ++ u) := by simp [bvs]
/-- a row of bytes of our own -/
def OutB (w : World) (base : Nat) (v : Value) (t : ByteArray) : Prop := w.ownsRow base 5 1 v t.size (bvs t)
theorem Tryz.infoB : (Tryz.prog.info? 5).map (fun i => (i.zero, i.size, i.bytes)) = some (some (.int .u8 0), 1, 1) := by kernel_rfl
theorem Tryz.under73 : Tryz.prog.underlying 73 = some (.slice 5) := by kernel_rfl
theorem TX_size (t : ByteArray) (L : List Int) (i : Nat) : (TX t L i).size = t.size + 4 * i := by
 induction i with
 | zero => rfl
 | succ i ih => show (TX t L i ++ fourB _).size = _; rw [ByteArray.size_append, ih]; show _ + 4 = _; omega
def four (x : Int) : List Value := [.int .u8 (x / 16777216 % 256), .int .u8 (x / 65536 % 256), .int .u8 (x / 256 % 256), .int .u8 (x % 256)]
theorem four_eq (x : Int) (h0 : 0 ≤ x) (h1 : x < 4294967296) : four x = bvs (fourB x) := by
 have b0 := byteAt_nat x 0
 have b1 := byteAt_nat x 1
 have b2 := byteAt_nat x 2
 have b3 := byteAt_nat x 3
 simp only [Nat.reduceSub, Nat.reducePow] at b0 b1 b2 b3
 show _ = [Value.int .u8 ((byteAt x 0).toNat : Int), Value.int .u8 ((byteAt x 1).toNat : Int), Value.int .u8 ((byteAt x 2).toNat : Int), Value.int .u8 ((byteAt x 3).toNat : Int)]
 rw [b0, b1, b2, b3]
 unfold four
 rw [show x / 16777216 % 256 = ((x.toNat / 16777216 % 256 : Nat) : Int) by omega, show x / 65536 % 256 = ((x.toNat / 65536 % 256 : Nat) : Int) by omega, show x / 256 % 256 = ((x.toNat / 256 % 256 : Nat) : Int) by omega, show x % 256 = ((x.toNat / 1 % 256 : Nat) : Int) by omega]
theorem new_cells (w : World) (b : Nat) (hb : b = w.heap.size) (xs : List Value) (t : TypeId) : ∀ j u, xs[j]? = some u → (w.alloc (.cells xs.toArray t)).cell? ((⟨b, 0, none⟩ : Addr).add j) = some u := by
 subst hb
 intro j u hu
 rw [show ((⟨w.heap.size, 0, none⟩ : Addr).add j) = ⟨w.heap.size, j, none⟩ by simp [Addr.add]; omega, cell_of_block (heap_alloc_new w _), List.getElem?_toArray, hu]
theorem four_one (x : Int) : ∀ u ∈ four x, u.oneCell' = true := by
 intro u hu
 simp only [four, List.mem_cons, List.not_mem_nil, or_false] at hu
 rcases hu with rfl | rfl | rfl | rfl <;> rfl
theorem outB_at {w : World} {base : Nat} {v : Value} {t : ByteArray} (h : OutB w base v t) : ∃ a cap, v = .slice a t.size cap ∧ (0 < t.size → ∃ g, a = some ⟨g, 0, none⟩ ∧ ∀ j (hj : j < t.data.toList.length), w.cell? ((⟨g, 0, none⟩ : Addr).add j) = some (.int .u8 (t.data.toList[j].toNat : Int))) := by
 rcases Go.Joins.ownsRow_forms h with ⟨rfl, h0⟩ | ⟨g, cap, rfl⟩
 · exact ⟨_, _, by rw [h0], fun q => absurd q (by omega)⟩
 · refine ⟨_, _, rfl, fun _ => ⟨g, rfl, fun j hj => ?_⟩⟩
   rw [show ((⟨g, 0, none⟩ : Addr).add j) = ⟨g, j, none⟩ by simp [Addr.add]; omega]
   have hj' : j < t.size := by simpa using hj
   refine (World.ownsRow.cellAt h j (by omega)).trans ?_
   unfold bvs
   rw [List.getElem?_map, List.getElem?_eq_getElem hj]; rfl
set_option maxHeartbeats 4000000 in
set_option maxRecDepth 100000 in
theorem appendWords_any (gl cl n base : Nat) (L : List Int) (v : Value) (t : ByteArray) (w : World) (hv : OutB w base v t) (hb : base ≤ w.heap.size) (hl : gl < base) (hL : ∀ i, i < n → w.cell? ⟨gl, i, none⟩ = some (.int .u32 (L.getD i 0))) (pL : pats L) (n4 : n ≤ 1000) (t4 : t.size ≤ 1000000) :
 Calls Tryz.prog 33 #[v, .slice (some ⟨gl, 0, none⟩) n cl] w fun e w' => ∃ v', e = .returned v' ∧ OutB w' base v' (TX t L n) ∧ Below base w w' := by
 obtain ⟨j0, ji, jz0, jz1, jz2⟩ := info_three Tryz.infoB
 have INF : Hid (_ ∧ _ ∧ _ ∧ _) := ⟨ji, jz0, jz1, jz2⟩
 have HV : Hid _ := hv
 have HL : Hid (∀ V, Below base w V → ∀ i, i < n → V.cell? ⟨gl, i, none⟩ = some (.int .u32 (L.getD i 0))) := fun V h i hi => (h.cell (p := ⟨gl, i, none⟩) hl).trans (hL i hi)
 have HP : Hid _ := pL
 have HBs : Hid _ := hb
 clear ji jz0 jz1 jz2 hv hb hl hL pL
 go_enter Tryz.func33, Tryz.ntmps33
 go_wp2
 go_loopw [0, 9] (fun tv iv wr => ∃ i : Nat, i ≤ n ∧ iv = .int .i64 i ∧ Hid (OutB wr base tv (TX t L i)) ∧ Hid (Below base w wr)) (fun _ iv _ => n - (intOf iv).toNat)
 case atStart => exact ⟨0, by omega, rfl, HV.out, Below.refl _ _⟩
 case round =>
  clear HV
  obtain ⟨i, hi, rfl, OW, BW⟩ := hrel
  by_cases hlt : i < n
  · have li : wr.cell? ⟨gl, i, none⟩ = some (.int .u32 (L.getD i 0)) := HL.out _ BW.out i hlt
    have xb := pats_at HP.out i
    obtain ⟨x, hx⟩ : ∃ v, v = L.getD i 0 := ⟨_, rfl⟩
    rw [← hx] at li xb
    have il : (i : Int) < (n : Int) := by omega
    have i0 : (0 : Int) ≤ (i : Int) := by omega
    obtain ⟨T, hT⟩ : ∃ T, T = TX t L i := ⟨_, rfl⟩
    have SU : Hid (TX t L (i + 1) = T ++ fourB x) := by show _ = _; rw [hT, hx]; rfl
    have TS : T.size ≤ 1004000 := by rw [hT, TX_size]; omega
    rw [← hT] at OW
    have F4 : Hid (four x = bvs (fourB x)) := four_eq x xb.1 xb.2
    obtain ⟨ua, uc, hu9, -⟩ := outB_at OW.out
    subst hu9
    have OA : Hid ((wr.alloc (.cells (four x).toArray 5)).ownsRow base 5 1 (.slice ua T.size uc) T.size (bvs T)) := World.ownsRow.alloc OW.out _
    have BS : Hid (base ≤ wr.heap.size) := Nat.le_trans HBs.out BW.out.size
    have BA : Hid (Below base w (wr.alloc (.cells (four x).toArray 5))) := BW.out.alloc BS.out _
    have c3 : Hid (T.size + 4 ≤ maxLen) := by show _ ≤ _; unfold maxLen; omega
    have c4 : Hid ((T.size + 4) * 1 ≤ 140737488355328) := by show _ ≤ _; omega
    have c6 : Hid (base ≤ (wr.alloc (.cells (four x).toArray 5)).heap.size) := Nat.le_trans BS.out (by simp)
    have FS : Hid ((T ++ fourB x).size = T.size + 4) := by show _ = _; rw [ByteArray.size_append]; rfl
    clear hx hT xb
    go_wp2_with (first
     | (at_builtin; refine wpList_append_lies _ rfl _ _ 73 rfl base 5 j0 _ 1 1 Tryz.under73 INF.out.1 INF.out.2.1 INF.out.2.2.1 INF.out.2.2.2 rfl (by decide) _ _ _ rfl OA.out ⟨wr.heap.size, 0, none⟩ 4 4 (four x) rfl rfl (new_cells wr _ rfl (four x) 5) (four_one x) (by decide) c3.out c4.out c6.out _ rfl ?_
        intro g2 cap2 w5 hown hgrow hat hlt2
        have O5 : Hid (OutB w5 base (.slice (some ⟨g2, 0, none⟩) (T.size + 4) cap2) (T ++ fourB x)) := by
         show World.ownsRow _ _ _ _ _ _ _
         rw [FS.out, ← bvs_app, ← F4.out]; exact hown
        have E5 : Hid (Below base w w5) := BA.out.grown hgrow c6.out fun b hb => (World.ownsRow.lt OA.out b hb).1
        clear hown hgrow hat hlt2))
    go_roundw
    case rel => exact ⟨i + 1, by omega, by go_num, by rw [SU.out]; exact O5.out, E5.out⟩
    case measure => simp [intOf]; omega
  · have hie : n = i := by omega
    subst hie
    obtain ⟨ua, uc, hu9, -⟩ := outB_at OW.out
    subst hu9
    go_wp2
    go_ret
    exact ⟨_, rfl, OW.out, BW.out⟩
end Go.Proofs.YtoihkljlekknkaaGreat
