/-
  A training made ready: what lies in memory. Conditions: as for the net in memory.
-/
import Derived.Test.YtoihkljlekknkaaGreatAp30
import Derived.Test.YtoihkljlekknkaaGreatAp25
import Derived.Test.YtoihkljlekknkaaGreatAp22
namespace Go.Proofs.YtoihkljlekknkaaGreat
open Go.RowKit
open Go.Joins (cell_of_block unfrozen_of_block)
set_option linter.unusedVariables false
set_option linter.unusedSimpArgs false
theorem Tryz.infoSm : (Tryz.prog.info? 65).map (fun i => (i.zero, i.size, i.bytes)) = some (some (.agg #[.slice none 0 0, .slice none 0 0]), 2, 48) := by kernel_rfl
theorem Tryz.under59 : Tryz.prog.underlying 59 = some (.slice 65) := by kernel_rfl
/-- a sample's cells -/
def SM2 (g a b : Nat) : Array Value := #[.slice (some ⟨g, 0, none⟩) a (a + b), .slice (some ⟨g, a, none⟩) b b]
/-- the cells of the first samples -/
def SCS (a b : Nat) (gw : Nat → Nat) : Nat → List Value
 | 0 => []
 | k + 1 => SCS a b gw k ++ (SM2 (gw k) a b).toList
theorem SCS_len (a b : Nat) (gw : Nat → Nat) (k : Nat) : (SCS a b gw k).length = k * 2 := by
 induction k with
 | zero => rfl
 | succ k ih => show (SCS a b gw k ++ _).length = _; rw [List.length_append, ih]; show _ + 2 = _; omega
theorem SCS_at (a b : Nat) (gw : Nat → Nat) (n k i : Nat) (hk : k < n) (hi : i < 2) : (SCS a b gw n)[k * 2 + i]? = (SM2 (gw k) a b)[i]? := by
 induction n with
 | zero => omega
 | succ n ih =>
   show (SCS a b gw n ++ _)[k * 2 + i]? = _
   by_cases e : k = n
   · subst e
     rw [List.getElem?_append_right (by rw [SCS_len]; omega), SCS_len, show k * 2 + i - k * 2 = i by omega, Array.getElem?_toList]
   · rw [List.getElem?_append_left (by rw [SCS_len]; omega)]
     exact ih (by omega)
theorem SCS_congr (a b : Nat) (gw gw' : Nat → Nat) (k : Nat) (h : ∀ i, i < k → gw i = gw' i) : SCS a b gw k = SCS a b gw' k := by
 induction k with
 | zero => rfl
 | succ k ih =>
   show SCS a b gw k ++ _ = SCS a b gw' k ++ _
   rw [ih (fun i hi => h i (by omega)), h k (by omega)]
/-- a training's struct -/
def TCl (X : Array Value) (v : Value) (N : Nat) : Array Value := X ++ #[v, .pointer (some ⟨N, 0, none⟩)]
/-- a training under way: so many samples are read -/
structure NTR (t : Nt) (s : ByteArray) (X : Array Value) (Bc T k : Nat) (v : Value) (gw : Nat → Nat) (w : World) : Prop where
 bc : w.heap[Bc]? = some (.cells X 31 (0, 0))
 tb : w.heap[T]? = some (.cells (TCl X v t.N) 61 (0, 0))
 ow : w.ownsRow (T + 1) 65 2 v k (SCS (wn t.c 0) (wn t.c (t.m + 1)) gw k)
 bT : Bc < T
 lo : ∀ i, i < k → T < gw i
 zw : ∀ i, i < k → w.heap[gw i]? = some (.cells (u32s (WDS s (i * (wn t.c 0 + wn t.c (t.m + 1))) (wn t.c 0 + wn t.c (t.m + 1)))) 29 (0, 0))
 ne : ∀ i, i < k → ∀ g, v.ownBlock = some g → gw i ≠ g
 net : NetR t w
 tO : ∀ b, t.O b → Bc < b ∧ b < T
theorem Tryz.step_row59 {ops : Array Oper} {o : Oper} {a : Act} {K : Act → World → Prop} {Q : Exit → Act → World → Prop} {E : Prop} {w : World} (hg : o.guard = none) (x : Operand) (hop : o.op = .buildSlice 59 1 #[(0, x)]) (g p q : Nat) (hx : a.eval x = .agg (SM2 g p q))
 (hk : K (a.put o.dst (.slice (some ⟨w.heap.size, 0, none⟩) 1 1)) (w.alloc (.cells (SM2 g p q) 65))) :
 if Region.wanted o (yielded ops a.tmps) = true then Oper.wp Tryz.prog o a w K Q else E := by
 rw [if_pos (by simp [Region.wanted, hg])]
 obtain ⟨j0, ji, jz0, jz1, jz2⟩ := info_three Tryz.infoSm
 refine wp_buildSlice 59 65 1 _ hop (SM2 g p q) j0 _ Tryz.under59 ji jz0 (by rw [jz1]; omega) (by rw [jz1]; omega) ?_ hk
 rw [jz1]
 simp only [List.map_toArray, List.map_cons, List.map_nil, hx]
 kernel_rfl
theorem SM2_cells (g p q : Nat) : ∀ u ∈ (SM2 g p q).toList, u.oneCell' = true := by
 intro u hu
 simp only [SM2, List.mem_cons, List.not_mem_nil, or_false] at hu
 rcases hu with rfl | rfl <;> rfl
theorem ntr_step {t : Nt} {s : ByteArray} {X : Array Value} {Bc T k : Nat} {v : Value} {gw : Nat → Nat} {w w' : World} (r : NTR t s X Bc T k v gw w) (g B cap : Nat) (lg : w.heap.size ≤ g)
 (hb : ∀ b, b < w.heap.size → b ≠ T → some b ≠ v.ownBlock → w'.heap[b]? = w.heap[b]?)
 (hT : w'.heap[T]? = some (.cells (TCl X (.slice (some ⟨B, 0, none⟩) (k + 1) cap) t.N) 61 (0, 0)))
 (ow : w'.ownsRow (T + 1) 65 2 (.slice (some ⟨B, 0, none⟩) (k + 1) cap) (k + 1) (SCS (wn t.c 0) (wn t.c (t.m + 1)) gw k ++ (SM2 g (wn t.c 0) (wn t.c (t.m + 1))).toList))
 (zg : w'.heap[g]? = some (.cells (u32s (WDS s (k * (wn t.c 0 + wn t.c (t.m + 1))) (wn t.c 0 + wn t.c (t.m + 1)))) 29 (0, 0)))
 (hB : v.ownBlock = some B ∨ g < B) :
 NTR t s X Bc T (k + 1) (.slice (some ⟨B, 0, none⟩) (k + 1) cap) (fun i => if i = k then g else gw i) w' := by
 have bcl := lt_of_heap r.bc
 have tbl := lt_of_heap r.tb
 have own : ∀ b, v.ownBlock = some b → T + 1 ≤ b ∧ b < w.heap.size := fun b hb => World.ownsRow.lt r.ow b hb
 have e : SCS (wn t.c 0) (wn t.c (t.m + 1)) (fun i => if i = k then g else gw i) (k + 1) = SCS (wn t.c 0) (wn t.c (t.m + 1)) gw k ++ (SM2 g (wn t.c 0) (wn t.c (t.m + 1))).toList := by
  show SCS _ _ _ k ++ (SM2 (if k = k then g else gw k) _ _).toList = _
  rw [if_pos rfl, SCS_congr _ _ _ gw k (fun i hi => by rw [if_neg (by omega)])]
 have low : ∀ b, b ≤ T → b ≠ T → w'.heap[b]? = w.heap[b]? := fun b h1 h2 => hb b (by omega) h2 (fun q => by have := own _ q.symm; omega)
 refine ⟨(low _ (by have := r.bT; omega) (by have := r.bT; omega)).trans r.bc, hT, by rw [e]; exact ow, r.bT, fun i hi => ?_, fun i hi => ?_, fun i hi b hb' => ?_, NetS.keep r.net (fun b hO _ => low b (by have := r.tO b hO; omega) (by have := r.tO b hO; omega)), r.tO⟩
 · show T < (if i = k then g else gw i)
   by_cases q : i = k
   · rw [if_pos q]; omega
   · rw [if_neg q]; exact r.lo i (by omega)
 · show w'.heap[if i = k then g else gw i]? = _
   by_cases q : i = k
   · rw [if_pos q, q]; exact zg
   · rw [if_neg q]; exact (hb _ (lt_of_heap (r.zw i (by omega))) (by have := r.lo i (by omega); omega) (fun p => r.ne i (by omega) _ p.symm rfl)).trans (r.zw i (by omega))
 · have hk' : b = B := by simpa [Value.ownBlock] using hb'.symm
   subst hk'
   show (if i = k then g else gw i) ≠ b
   rcases hB with hB | hB
   · have ob := own _ hB
     by_cases q : i = k
     · rw [if_pos q]; omega
     · rw [if_neg q]; exact r.ne i (by omega) _ hB
   · by_cases q : i = k
     · rw [if_pos q]; omega
     · rw [if_neg q]; have := lt_of_heap (r.zw i (by omega)); omega
theorem WDS_at (s : ByteArray) (p m i : Nat) (h : i < m) : (WDS s p m).getD i 0 = wordN s (4 * (p + i)) := by
 unfold WDS; rw [List.getD_eq_getElem?_getD, List.getElem?_map, List.getElem?_range h]; rfl
theorem ntr_done {t : Nt} {s : ByteArray} {X : Array Value} {Bc T k : Nat} {v : Value} {gw : Nat → Nat} {w : World} (hX : X = pcs t.c) (r : NTR t s X Bc T k v gw w) (k1 : 1 ≤ k) :
 ∃ q : Tr, q.T = T ∧ q.ns = k ∧ q.s = s ∧ TrS t q w ∧ (∀ b, q.O b → ¬ t.O b) ∧ (∀ b, q.O b → Bc < b) := by
 rcases r.ow.2 with ⟨e, e0⟩ | ⟨B, cap, cur, e, h1, h2, h3, h4, h5, h6⟩
 · omega
 · have x20 : X.size = 20 := by rw [hX]; rfl
   have oO : ∀ b, (b = T ∨ b = B ∨ ∃ i, i < k ∧ b = gw i) → T ≤ b := by
    rintro b (rfl | rfl | ⟨i, hi, rfl⟩)
    · exact Nat.le_refl _
    · omega
    · exact Nat.le_of_lt (r.lo i hi)
   refine ⟨⟨T, B, cap, k, 61, 65, gw, s⟩, rfl, rfl, rfl, ⟨⟨_, r.tb, fun i hi => ?_, ?_, ?_, ?_⟩, ⟨cur, h2, fun i hi => ?_⟩, fun i hi => lt_of_heap (r.zw i hi), fun i hi j hj => ?_, fun i hi j hj => ?_⟩, fun b hb hO => ?_, fun b hb => ?_⟩
   · unfold TCl; rw [Array.getElem?_append_left (by omega), hX]
   · unfold TCl; rw [Array.getElem?_append_right (by omega), x20, e]; rfl
   · unfold TCl; rw [Array.getElem?_append_right (by omega), x20]; rfl
   · unfold TCl; rw [Array.size_append, x20]; rfl
   · have q : ∀ j, j < 2 → cur[i * 2 + j]? = (SM2 (gw i) (wn t.c 0) (wn t.c (t.m + 1)))[j]? := fun j hj => by
      have hi' : i < k := hi
      rw [← SCS_at _ _ gw k i j hi' hj, ← h6, List.getElem?_take_of_lt (by omega), Array.getElem?_toList]
     exact ⟨q 0 (by omega), q 1 (by omega)⟩
   · have hi' : i < k := hi
     show w.cell? ⟨gw i, 0 + j, none⟩ = _
     rw [Nat.zero_add, cell_of_block (r.zw i hi'), u32s_at _ j (by rw [WDS_len]; omega), WDS_at _ _ _ _ (by omega)]
     unfold XS
     rw [WDS_at _ _ _ _ hj]
   · have hi' : i < k := hi
     show w.cell? ⟨gw i, wn t.c 0 + j, none⟩ = _
     rw [cell_of_block (r.zw i hi'), u32s_at _ _ (by rw [WDS_len]; omega), WDS_at _ _ _ _ (by omega)]
     unfold YS
     rw [WDS_at _ _ _ _ hj, Nat.add_assoc]
   · have := oO b hb; have := r.tO b hO; omega
   · have := oO b hb; have := r.bT; omega
/-- the words of a piece of a text -/
theorem WDS_piece (b s : ByteArray) (p n : Nat) (h : ∀ i, i < 4 * n → byt b i = byt s (4 * p + i)) : WDS b 0 n = WDS s p n := by
 unfold WDS
 apply List.map_congr_left
 intro i hi
 have hi' : i < n := List.mem_range.1 hi
 unfold wordN
 rw [Nat.zero_add, h (4 * i) (by omega), h (4 * i + 1) (by omega), h (4 * i + 2) (by omega), h (4 * i + 3) (by omega), show 4 * (p + i) = 4 * p + 4 * i by omega]
 rfl
end Go.Proofs.YtoihkljlekknkaaGreat
