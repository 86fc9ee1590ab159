/-
  The law's own walk: two pairs of disks, the script's deeds on them, the looks at the lists. Condition: fewer than 2^41 deeds, as they are read.
-/
import Derived.Test.YtnkgfoabadjboaaDk38
import Derived.Test.YtnkgfoabadjboaaDk39
import Derived.Test.YtnkgfoabadjboaaAdd
namespace Go.Proofs.Ytnkgfoabadjboaa
open Go.RowKit
set_option linter.unusedVariables false
set_option linter.unusedSimpArgs false
theorem one_one : ADD 1065353216 1065353216 = 1073741824 := by decide +kernel
/-- which of two -/
def pk2 (c : Int) : Nat := if c < 0 then (-(c + 1) % 2).toNat else (c % 2).toNat
theorem pk2_lt (c : Int) : pk2 c < 2 := by unfold pk2; split <;> omega
theorem pk2_any (c : Int) (w : World) (h0 : -9223372036854775808 ≤ c) (h1 : c ≤ 9223372036854775807) :
    Calls Try.prog 48 #[.int .i64 c, .int .i64 2] w fun e w' => e = .returned (.int .i64 (pk2 c : Int)) ∧ w' = w := by
  unfold pk2
  by_cases h : c < 0
  · rw [if_pos h]
    have hn : 0 ≤ -(c + 1) := by omega
    go_enter Try.func48, Try.ntmps48
    go_wp2
    go_ret
    have e : (c + 1).tmod 2 = -(-(c + 1) % 2) := by
      have e1 : c + 1 = -(-(c + 1)) := by omega
      rw [e1, Int.neg_tmod, Int.tmod_eq_emod_of_nonneg hn, ← e1]
    exact ⟨ret_int (by omega), rfl⟩
  · rw [if_neg h]
    go_enter Try.func48, Try.ntmps48
    go_wp2
    go_ret
    exact ⟨ret_int (by omega), rfl⟩
theorem prs_zero (W : World) (Pf : Nat → Nat) : PrsE W 0 (.slice none 0 0) Pf 0 W :=
  ⟨fun _ _ => False, fun _ => 0, fun _ => St0, {
    row := World.ownsRow_nil _ _ _ _
    prs := fun j hj => by cases hj
    ok := fun j hj => by cases hj
    ap := fun i j k hi => by cases hi
    rw := fun j k hj => by cases hj
    new := fun j k hj => by cases hj
    bel := Below.refl _ _ }⟩
theorem PrsE.row {W0 w : World} {c m : Nat} {lv : Value} {Pf : Nat → Nat} (h : PrsE W0 c lv Pf m w) : w.ownsRow W0.heap.size 40 1 lv c ((List.range c).map fun j => .pointer (some ⟨Pf j, 0, none⟩)) := by
  obtain ⟨Q, nf, Sf, h⟩ := h
  exact h.row
theorem one_ptr (w : World) (b : Nat) (hb : b = w.heap.size) (x : Value) : ∀ j u, [x][j]? = some u → (w.alloc (.cells #[x] 40)).cell? ((⟨b, 0, none⟩ : Addr).add j) = some u := by
  subst hb
  intro j u hu
  match j, hu with
  | 0, hu =>
    simp at hu
    subst hu
    simp [Addr.add]
/-- three new blocks: a disk, the document's disk, the pair -/
def fresh3 (w w4 : World) : Prop := Below w.heap.size w w4 ∧ w4.heap[w.heap.size]? = some (.cells #[.slice none 0 0, .slice none 0 0, .slice none 0 0, .int .i64 (-1), .int .i64 (-1)] 92 (0, 0)) ∧ w4.heap[w.heap.size + 1]? = some (.cells #[.slice none 0 0, .slice none 0 0, .slice none 0 0, .slice none 0 0, .slice none 0 0, .int .i64 (-1), .int .i64 (-1)] 97 (0, 0)) ∧ w4.heap[w.heap.size + 1 + 1]? = some (.cells #[.pointer (some ⟨w.heap.size, 0, none⟩), .pointer (some ⟨w.heap.size + 1, 0, none⟩), .slice none 0 0, .slice none 0 0] 45 (0, 0))
theorem fresh3_of (w : World) (o : Obj) : fresh3 w ((((w.alloc (.cells #[.slice none 0 0, .slice none 0 0, .slice none 0 0, .int .i64 (-1), .int .i64 (-1)] 92)).alloc (.cells #[.slice none 0 0, .slice none 0 0, .slice none 0 0, .slice none 0 0, .slice none 0 0, .int .i64 (-1), .int .i64 (-1)] 97)).alloc (.cells #[.pointer (some ⟨w.heap.size, 0, none⟩), .pointer (some ⟨w.heap.size + 1, 0, none⟩), .slice none 0 0, .slice none 0 0] 45)).alloc o) := by
  obtain ⟨V1, h1⟩ : ∃ V, w.alloc (.cells #[.slice none 0 0, .slice none 0 0, .slice none 0 0, .int .i64 (-1), .int .i64 (-1)] 92) = V := ⟨_, rfl⟩
  have s1 : V1.heap.size = w.heap.size + 1 := by rw [← h1]; simp
  have n1 : V1.heap[w.heap.size]? = some (.cells #[.slice none 0 0, .slice none 0 0, .slice none 0 0, .int .i64 (-1), .int .i64 (-1)] 92 (0, 0)) := by rw [← h1]; exact heap_alloc_new w _
  have b1 : Below w.heap.size w V1 := by rw [← h1]; exact (Below.refl _ _).alloc (Nat.le_refl _) _
  rw [h1]
  obtain ⟨V2, h2⟩ : ∃ V, V1.alloc (.cells #[.slice none 0 0, .slice none 0 0, .slice none 0 0, .slice none 0 0, .slice none 0 0, .int .i64 (-1), .int .i64 (-1)] 97) = V := ⟨_, rfl⟩
  have s2 : V2.heap.size = w.heap.size + 1 + 1 := by rw [← h2]; simp [s1]
  have n2 : V2.heap[w.heap.size + 1]? = some (.cells #[.slice none 0 0, .slice none 0 0, .slice none 0 0, .slice none 0 0, .slice none 0 0, .int .i64 (-1), .int .i64 (-1)] 97 (0, 0)) := by rw [← h2, ← s1]; exact heap_alloc_new V1 _
  have b2 : Below w.heap.size w V2 := by rw [← h2]; exact b1.alloc (by omega) _
  have k1 : V2.heap[w.heap.size]? = V1.heap[w.heap.size]? := by rw [← h2]; exact Below.heap_alloc V1 _ _ (by omega)
  rw [h2]
  obtain ⟨V3, h3⟩ : ∃ V, V2.alloc (.cells #[.pointer (some ⟨w.heap.size, 0, none⟩), .pointer (some ⟨w.heap.size + 1, 0, none⟩), .slice none 0 0, .slice none 0 0] 45) = V := ⟨_, rfl⟩
  have s3 : V3.heap.size = w.heap.size + 1 + 1 + 1 := by rw [← h3]; simp [s2]
  have n3 : V3.heap[w.heap.size + 1 + 1]? = some (.cells #[.pointer (some ⟨w.heap.size, 0, none⟩), .pointer (some ⟨w.heap.size + 1, 0, none⟩), .slice none 0 0, .slice none 0 0] 45 (0, 0)) := by rw [← h3, ← s2]; exact heap_alloc_new V2 _
  have b3 : Below w.heap.size w V3 := by rw [← h3]; exact b2.alloc (by omega) _
  have k2 : ∀ k, k < w.heap.size + 1 + 1 → V3.heap[k]? = V2.heap[k]? := fun k hk => by rw [← h3]; exact Below.heap_alloc V2 _ _ (by omega)
  rw [h3]
  have k3 : ∀ k, k < w.heap.size + 1 + 1 + 1 → (V3.alloc o).heap[k]? = V3.heap[k]? := fun k hk => Below.heap_alloc V3 _ _ (by omega)
  exact ⟨b3.alloc (by omega) _, by rw [k3 _ (by omega), k2 _ (by omega), k1]; exact n1, by rw [k3 _ (by omega), k2 _ (by omega)]; exact n2, by rw [k3 _ (by omega)]; exact n3⟩
/-- the cells of deed number i, in a later world -/
def Cells6 (w : World) (b o : Nat) (wh kd a c : Int) (s t : ByteArray) : Prop := w.cell? ⟨b, o, none⟩ = some (.int .i64 wh) ∧ w.cell? ⟨b, o + 1, none⟩ = some (.int .i64 kd) ∧ w.cell? ⟨b, o + 2, none⟩ = some (.string s) ∧ w.cell? ⟨b, o + 3, none⟩ = some (.string t) ∧ w.cell? ⟨b, o + 4, none⟩ = some (.int .i64 a) ∧ w.cell? ⟨b, o + 5, none⟩ = some (.int .i64 c)
theorem Cells6.below {W w : World} {b o : Nat} {wh kd a c : Int} {s t : ByteArray} (h : Cells6 W b o wh kd a c s t) (hb : b < W.heap.size) (bel : Below W.heap.size W w) : Cells6 w b o wh kd a c s t :=
  ⟨(bel.cell (p := ⟨b, o, none⟩) hb).trans h.1, (bel.cell (p := ⟨b, o + 1, none⟩) hb).trans h.2.1, (bel.cell (p := ⟨b, o + 2, none⟩) hb).trans h.2.2.1, (bel.cell (p := ⟨b, o + 3, none⟩) hb).trans h.2.2.2.1, (bel.cell (p := ⟨b, o + 4, none⟩) hb).trans h.2.2.2.2.1, (bel.cell (p := ⟨b, o + 5, none⟩) hb).trans h.2.2.2.2.2⟩
set_option maxHeartbeats 8000000 in
set_option maxRecDepth 100000 in
theorem disks_walk (sa : Option Addr) (n cap : Nat) (hn : n ≤ 2199023255488) (W : World) (hsc : 0 < n → ∃ b off, sa = some ⟨b, off, none⟩ ∧ b < W.heap.size ∧ ∀ i, i < n → DeedAt W b off i) :
    Calls Try.prog 10 #[.slice sa n cap] W fun e w' => e = .returned (.bool true) ∧ Below W.heap.size W w' := by
  have ADD1 : Hid (∀ w, Calls Try.prog 16 #[.int .u32 1065353216, .int .u32 1065353216] w fun e w' => e = .returned (.int .u32 1073741824) ∧ w' = w) := fun w => by
    have := add_any 1065353216 1065353216 w (by decide) (by decide) (by decide) (by decide)
    rw [one_one] at this
    exact this
  have HSC : Hid _ := hsc
  obtain ⟨j0, hi, hz0, hz1, hz2⟩ := info_parts Try.infoP
  have INF : Hid _ := And.intro hi (And.intro hz0 (And.intro hz1 hz2))
  clear hsc hi hz0 hz1 hz2
  go_enter Try.func10, Try.ntmps10
  go_wp2_with (first | (go_at_call 16; refine (ADD1.out _).mono ?_; rintro e w' ⟨rfl, hw'⟩; subst w'))
  go_loopw [4, 5] (fun lv iv wr => ∃ (i : Nat) (Pf : Nat → Nat), i ≤ 2 ∧ iv = .int .i64 i ∧ Hid (PrsE W i lv Pf 0 wr)) (fun _ iv _ => 2 - (intOf iv).toNat)
  case atStart => exact ⟨0, fun _ => 0, by omega, rfl, prs_zero W _⟩
  case round =>
    obtain ⟨i, Pf, hi2, rfl, PE⟩ := hrel
    obtain ⟨la, lc, rfl, hla⟩ := PE.out.lv
    by_cases hlt : i < 2
    · obtain ⟨w1, hw1⟩ : ∃ w1, (((wr.alloc (.cells #[.slice none 0 0, .slice none 0 0, .slice none 0 0, .int .i64 (-1), .int .i64 (-1)] 92)).alloc (.cells #[.slice none 0 0, .slice none 0 0, .slice none 0 0, .slice none 0 0, .slice none 0 0, .int .i64 (-1), .int .i64 (-1)] 97)).alloc (.cells #[.pointer (some ⟨wr.heap.size, 0, none⟩), .pointer (some ⟨wr.heap.size + 1, 0, none⟩), .slice none 0 0, .slice none 0 0] 45)) = w1 := ⟨_, rfl⟩
      have OA : Hid ((w1.alloc (.cells #[.pointer (some ⟨wr.heap.size + 1 + 1, 0, none⟩)] 40)).ownsRow W.heap.size 40 1 (.slice la i lc) i ((List.range i).map fun j => .pointer (some ⟨Pf j, 0, none⟩))) := by
        rw [← hw1]; exact ((((PE.out.row).alloc _).alloc _).alloc _).alloc _
      have FA : Hid (fresh3 wr (w1.alloc (.cells #[.pointer (some ⟨wr.heap.size + 1 + 1, 0, none⟩)] 40))) := by rw [← hw1]; exact fresh3_of wr _
      have c3 : Hid (i + 1 ≤ maxLen) := by show _ ≤ _; unfold maxLen; omega
      have c4 : Hid ((i + 1) * 8 ≤ 140737488355328) := by show _ ≤ _; omega
      have c6 : Hid (W.heap.size ≤ (w1.alloc (.cells #[.pointer (some ⟨wr.heap.size + 1 + 1, 0, none⟩)] 40)).heap.size) := by
        show _ ≤ _
        have h1 := FA.out.1.size
        have h2 := PE.out.bel.size
        omega
      clear hla
      go_wp2_with (first
        | (go_at_call 45; refine (new_any _).mono ?_; rintro e w2 ⟨rfl, hw2⟩; subst w2)
        | (go_at_call 46; refine (rnew_any _).mono ?_; rintro e w3 ⟨rfl, hw3⟩; subst w3)
        | (at_builtin; refine wpList_append_lies _ rfl _ _ 37 rfl W.heap.size 40 j0 _ 1 8 Try.underlying37 INF.out.1 INF.out.2.1 INF.out.2.2.1 INF.out.2.2.2 rfl (by decide) _ _ _ rfl OA.out ⟨w1.heap.size, 0, none⟩ 1 1 [.pointer (some ⟨wr.heap.size + 1 + 1, 0, none⟩)] rfl rfl (one_ptr _ _ rfl _) (one_valc _ rfl) (by decide) c3.out c4.out c6.out _ rfl ?_
           intro g cap2 w5 hown hgrow hat hlt2
           have PE5 : Hid (PrsE W (i + 1) (.slice (some ⟨g, 0, none⟩) (i + 1) cap2) (fun j => if j = i then wr.heap.size + 1 + 1 else Pf j) 0 w5) := PE.out.more FA.out.1 wr.heap.size (wr.heap.size + 1) (wr.heap.size + 1 + 1) (Nat.le_refl _) (by omega) (by omega) FA.out.2.1 FA.out.2.2.1 FA.out.2.2.2 hown hgrow hat
           clear hown hgrow hat hlt2))
      go_roundw
      case rel => exact ⟨i + 1, _, by omega, by go_num, PE5.out⟩
      case measure => simp [intOf]; omega
    · have hi3 : i = 2 := by omega
      subst hi3
      obtain ⟨g, rfl, hgs⟩ := hla (by omega)
      have d0 : wr.cell? ⟨g, 0, none⟩ = some (.pointer (some ⟨Pf 0, 0, none⟩)) := PE.out.at rfl 0 (by omega)
      have DE1 : Hid _ := prs_deed PE.out (by omega) 0 (by omega) 0 1 0 0 (ByteArray.mk #[97]) (ByteArray.mk #[116, 101, 120, 116]) (by decide) (by decide) (by omega) (by omega)
      go_upto_region 15 with (first
        | (go_at_call 47; refine Calls.mono DE1.out ?_; rintro e w2 ⟨rfl, P2⟩
           have PE2 : Hid (PrsE W 2 (.slice (some ⟨g, 0, none⟩) 2 lc) Pf 1 w2) := P2
           have d1 : w2.cell? ⟨g, 0, none⟩ = some (.pointer (some ⟨Pf 0, 0, none⟩)) := P2.at rfl 0 (by omega)
           clear P2))
      have DE2 : Hid _ := prs_deed PE2.out (by omega) 0 (by omega) 0 2 0 0 (ByteArray.mk #[97]) (ByteArray.mk #[]) (by decide) (by decide) (by omega) (by omega)
      go_wp2_with (first
        | (go_at_call 47; refine Calls.mono DE2.out ?_; rintro e w3 ⟨rfl, P3⟩
           have PE3 : Hid (PrsE W 2 (.slice (some ⟨g, 0, none⟩) 2 lc) Pf 2 w3) := P3
           clear P3))
      clear d0 d1 hgs
      go_loopw [8] (fun iv wr => ∃ q : Nat, q ≤ n ∧ iv = .int .i64 q ∧ Hid (PrsE W 2 (.slice (some ⟨g, 0, none⟩) 2 lc) Pf (q + 2) wr)) (fun iv _ => n - (intOf iv).toNat)
      case atStart => exact ⟨0, by omega, rfl, PE3.out⟩
      case round =>
        obtain ⟨q, hq, rfl, PQ⟩ := hrel
        by_cases hlt : q < n
        · obtain ⟨b, off, rfl, hbs, hdd⟩ := HSC.out (by omega)
          obtain ⟨wh, kd, a, c, s, t, e0, e1, e2, e3, e4, e5, bw, ba, bc, bs, bt⟩ := hdd q hlt
          have C6 : Hid (Cells6 W b (off + q * 6) wh kd a c s t) := ⟨e0, e1, e2, e3, e4, e5⟩
          obtain ⟨j, hj⟩ : ∃ j, j = pk2 wh := ⟨_, rfl⟩
          have hj2 : j < 2 := by rw [hj]; exact pk2_lt wh
          have PK : Hid (∀ w, Calls Try.prog 48 #[.int .i64 wh, .int .i64 2] w fun e w' => e = .returned (.int .i64 (j : Int)) ∧ w' = w) := fun w => by rw [hj]; exact pk2_any wh w bw.1 bw.2
          obtain ⟨x0, x1, x2, x3, x4, x5⟩ := C6.out.below hbs PQ.out.bel
          have xg : wr.cell? ⟨g, j, none⟩ = some (.pointer (some ⟨Pf j, 0, none⟩)) := PQ.out.at rfl j hj2
          have S0 : wr.drew.cell? ⟨b, off + q * 6, none⟩ = some (.int .i64 wh) ∧ wr.drew.cell? ⟨b, off + q * 6 + 1, none⟩ = some (.int .i64 kd) ∧ wr.drew.cell? ⟨b, off + q * 6 + 2, none⟩ = some (.string s) ∧ wr.drew.cell? ⟨b, off + q * 6 + 3, none⟩ = some (.string t) ∧ wr.drew.cell? ⟨b, off + q * 6 + 4, none⟩ = some (.int .i64 a) ∧ wr.drew.cell? ⟨b, off + q * 6 + 5, none⟩ = some (.int .i64 c) ∧ wr.drew.cell? ⟨g, j, none⟩ = some (.pointer (some ⟨Pf j, 0, none⟩)) := ⟨x0, x1, x2, x3, x4, x5, xg⟩
          have DE : Hid _ := prs_deed (PQ.out.below ((Below.refl _ _).drew)) (by omega) j hj2 wh kd a c s t bs bt ba bc
          have HBS : Hid _ := hbs
          have HJ2 : Hid _ := hj2
          have ql : (q : Int) < (n : Int) := by omega
          have q0 : (0 : Int) ≤ (q : Int) := by omega
          have jl : (j : Int) < 2 := by omega
          have jz : (0 : Int) ≤ (j : Int) := by omega
          clear hdd e0 e1 e2 e3 e4 e5 hj bw ba bc bs bt x0 x1 x2 x3 x4 x5 xg hbs hj2
          go_upto_region 21 with fail
          go_region_held3 (fun w' => w'.cell? ⟨b, off + q * 6, none⟩ = some (.int .i64 wh) ∧ w'.cell? ⟨b, off + q * 6 + 1, none⟩ = some (.int .i64 kd) ∧ w'.cell? ⟨b, off + q * 6 + 2, none⟩ = some (.string s) ∧ w'.cell? ⟨b, off + q * 6 + 3, none⟩ = some (.string t) ∧ w'.cell? ⟨b, off + q * 6 + 4, none⟩ = some (.int .i64 a) ∧ w'.cell? ⟨b, off + q * 6 + 5, none⟩ = some (.int .i64 c) ∧ w'.cell? ⟨g, j, none⟩ = some (.pointer (some ⟨Pf j, 0, none⟩))) (assumption) (first
            | (go_at_call 48; refine (PK.out _).mono ?_; rintro e w' ⟨rfl, hw'⟩; subst w')
            | (go_at_call 47; refine Calls.mono DE.out ?_; rintro e w4 ⟨rfl, P4⟩
               have PE4 : Hid (PrsE W 2 (.slice (some ⟨g, 0, none⟩) 2 lc) Pf (q + 2 + 1) w4) := P4
               have S4 : w4.cell? ⟨b, off + q * 6, none⟩ = some (.int .i64 wh) ∧ w4.cell? ⟨b, off + q * 6 + 1, none⟩ = some (.int .i64 kd) ∧ w4.cell? ⟨b, off + q * 6 + 2, none⟩ = some (.string s) ∧ w4.cell? ⟨b, off + q * 6 + 3, none⟩ = some (.string t) ∧ w4.cell? ⟨b, off + q * 6 + 4, none⟩ = some (.int .i64 a) ∧ w4.cell? ⟨b, off + q * 6 + 5, none⟩ = some (.int .i64 c) ∧ w4.cell? ⟨g, j, none⟩ = some (.pointer (some ⟨Pf j, 0, none⟩)) := by
                 obtain ⟨y0, y1, y2, y3, y4, y5⟩ := C6.out.below HBS.out P4.bel
                 exact ⟨y0, y1, y2, y3, y4, y5, P4.at rfl j HJ2.out⟩
               clear P4))
          clear S0 S4
          go_wp2_with fail
          go_loopw [9] (fun kv wz => ∃ k : Nat, k ≤ 2 ∧ kv = .int .i64 k ∧ Hid (PrsE W 2 (.slice (some ⟨g, 0, none⟩) 2 lc) Pf (q + 2 + 1) wz)) (fun kv _ => 2 - (intOf kv).toNat)
          case atStart => exact ⟨0, by omega, rfl, PE4.out⟩
          case round =>
            obtain ⟨k, hk, rfl, PK2⟩ := hrel
            by_cases hkl : k < 2
            · have xk : wr.cell? ⟨g, k, none⟩ = some (.pointer (some ⟨Pf k, 0, none⟩)) := PK2.out.at rfl k hkl
              have WH : Hid _ := prs_whole PK2.out (by omega) k hkl
              have kl : (k : Int) < 2 := by omega
              have k0 : (0 : Int) ≤ (k : Int) := by omega
              go_wp2_with (first
                | (go_at_call 49; refine Calls.mono WH.out ?_; rintro e w6 ⟨rfl, P6⟩
                   have PE6 : Hid (PrsE W 2 (.slice (some ⟨g, 0, none⟩) 2 lc) Pf (q + 2 + 1) w6) := P6
                   clear P6))
              go_roundw
              case rel => exact ⟨k + 1, by omega, by go_num, PE6.out⟩
              case measure => simp [intOf]; omega
            · go_wp2
              go_roundw
              case rel => exact ⟨q + 1, by omega, by go_num, PK2.out⟩
              case measure => simp [intOf]; omega
        · go_wp2
          go_ret
          exact ⟨rfl, PQ.out.bel⟩
end Go.Proofs.Ytnkgfoabadjboaa
