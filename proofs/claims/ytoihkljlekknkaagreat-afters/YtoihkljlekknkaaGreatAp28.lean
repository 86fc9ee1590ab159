/-
  A new net, of the program. Conditions: the configuration is one; its widths are 1 to 4.
-/
import Derived.Test.YtoihkljlekknkaaGreatAp27
import Derived.Great.BuildSlice
namespace Go.Proofs.YtoihkljlekknkaaGreat
open Go.RowKit
open Go.Joins (cell_of_block unfrozen_of_block)
set_option linter.unusedVariables false
set_option linter.unusedSimpArgs false
theorem Tryz.infoBn : (Tryz.prog.info? 91).map (fun i => (i.zero, i.size, i.bytes)) = some (some (.agg zb), 7, 104) := by kernel_rfl
theorem Tryz.under82 : Tryz.prog.underlying 82 = some (.slice 91) := by kernel_rfl
/-- the cells of the first hidden layers -/
def BNS (c : Cf) (gs ga : Nat → Nat) : Nat → List Value
 | 0 => []
 | j + 1 => BNS c gs ga j ++ (BN (wn c j) (wn c (j + 1)) (sn c j) (gs j) c.bend (ga j)).toList
theorem BNS_len (c : Cf) (gs ga : Nat → Nat) (j : Nat) : (BNS c gs ga j).length = j * 7 := by
 induction j with
 | zero => rfl
 | succ j ih => show (BNS c gs ga j ++ _).length = _; rw [List.length_append, ih]; show _ + 7 = _; omega
theorem BNS_at (c : Cf) (gs ga : Nat → Nat) (j k i : Nat) (hk : k < j) (hi : i < 7) : (BNS c gs ga j)[k * 7 + i]? = (BN (wn c k) (wn c (k + 1)) (sn c k) (gs k) c.bend (ga k))[i]? := by
 induction j with
 | zero => omega
 | succ j ih =>
   show (BNS c gs ga j ++ _)[k * 7 + i]? = _
   by_cases e : k = j
   · subst e
     rw [List.getElem?_append_right (by rw [BNS_len]; omega), BNS_len, show k * 7 + i - k * 7 = i by omega, Array.getElem?_toList]
   · rw [List.getElem?_append_left (by rw [BNS_len]; omega)]
     exact ih (by omega)
theorem BNS_congr (c : Cf) (gs ga gs' ga' : Nat → Nat) (j : Nat) (h : ∀ i, i < j → gs i = gs' i ∧ ga i = ga' i) : BNS c gs ga j = BNS c gs' ga' j := by
 induction j with
 | zero => rfl
 | succ j ih =>
   show BNS c gs ga j ++ _ = BNS c gs' ga' j ++ _
   rw [ih (fun i hi => h i (by omega)), (h j (by omega)).1, (h j (by omega)).2]
/-- the struct of a net under way -/
def zn (v : Value) : Array Value := #[v, .int .i64 0, .int .i64 0, .int .i64 0, .slice none 0 0, .slice none 0 0, .int .i64 0]
/-- a net under way: so many hidden layers are made -/
structure NewR (c : Cf) (X : Array Value) (Bc N j : Nat) (v : Value) (gs ga : Nat → Nat) (w : World) : Prop where
 bc : w.heap[Bc]? = some (.cells X 31 (0, 0))
 nb : w.heap[N]? = some (.cells (zn v) 88 (0, 0))
 ow : w.ownsRow (N + 1) 91 7 v j (BNS c gs ga j)
 bN : Bc < N
 lo : ∀ i, i < j → N < gs i ∧ gs i < ga i
 up : ∀ i, i + 1 < j → ga i < gs (i + 1)
 zs : ∀ i, i < j → w.heap[gs i]? = some (.cells (u32s (List.replicate (wn c (i + 1)) 0)) 29 (0, 0))
 za : ∀ i, i < j → w.heap[ga i]? = some (.cells (u32s (List.replicate (wn c (i + 1)) 0)) 29 (0, 0))
 ne : ∀ i, i < j → ∀ g, v.ownBlock = some g → gs i ≠ g ∧ ga i ≠ g
/-- an alloc of a layer's variable, at a step of a region that draws its order -/
theorem Tryz.step_alloc84 {ops : Array Oper} {o : Oper} {a : Act} {K : Act → World → Prop} {Q : Exit → Act → World → Prop} {E : Prop} {w : World} (hg : o.guard = none) (hop : o.op = .alloc 84)
 (h : ∀ g w', w'.heap[g]? = some (.cells zl 84 (0, 0)) → w.heap.size ≤ g → Below w.heap.size w w' → K (a.put o.dst (.pointer (some ⟨g, 0, none⟩))) w') :
 if Region.wanted o (yielded ops a.tmps) = true then Oper.wp Tryz.prog o a w K Q else E := by
 rw [if_pos (by simp [Region.wanted, hg])]
 unfold Oper.wp execOp
 simp only [hop]
 go_simp
 exact h w.heap.size _ (heap_alloc_new w _) (Nat.le_refl _) ((Below.refl _ _).alloc (Nat.le_refl _) _)
/-- the one hidden layer that is put behind the others, as a row of its own -/
theorem Tryz.step_row82 {ops : Array Oper} {o : Oper} {a : Act} {K : Act → World → Prop} {Q : Exit → Act → World → Prop} {E : Prop} {w : World} (hg : o.guard = none) (x : Operand) (hop : o.op = .buildSlice 82 1 #[(0, x)]) (p n f g : Nat) (bend : Int) (h : Nat) (hx : a.eval x = .agg (BN p n f g bend h))
 (hk : K (a.put o.dst (.slice (some ⟨w.heap.size, 0, none⟩) 1 1)) (w.alloc (.cells (BN p n f g bend h) 91))) :
 if Region.wanted o (yielded ops a.tmps) = true then Oper.wp Tryz.prog o a w K Q else E := by
 rw [if_pos (by simp [Region.wanted, hg])]
 obtain ⟨j0, ji, jz0, jz1, jz2⟩ := info_three Tryz.infoBn
 refine wp_buildSlice 82 91 1 _ hop (BN p n f g bend h) j0 _ Tryz.under82 ji jz0 (by rw [jz1]; omega) (by rw [jz1]; omega) ?_ hk
 rw [jz1]
 simp only [List.map_toArray, List.map_cons, List.map_nil, hx]
 kernel_rfl
theorem new_step {c : Cf} {X : Array Value} {Bc N j : Nat} {v : Value} {gs ga : Nat → Nat} {w w' : World} (r : NewR c X Bc N j v gs ga w) (g h B cap : Nat) (lg : w.heap.size ≤ g) (gh : g < h)
 (hb : ∀ k, k < w.heap.size → k ≠ N → some k ≠ v.ownBlock → w'.heap[k]? = w.heap[k]?)
 (hN : w'.heap[N]? = some (.cells (zn (.slice (some ⟨B, 0, none⟩) (j + 1) cap)) 88 (0, 0)))
 (ow : w'.ownsRow (N + 1) 91 7 (.slice (some ⟨B, 0, none⟩) (j + 1) cap) (j + 1) (BNS c gs ga j ++ (BN (wn c j) (wn c (j + 1)) (sn c j) g c.bend h).toList))
 (zg : w'.heap[g]? = some (.cells (u32s (List.replicate (wn c (j + 1)) 0)) 29 (0, 0))) (zh : w'.heap[h]? = some (.cells (u32s (List.replicate (wn c (j + 1)) 0)) 29 (0, 0)))
 (hB : v.ownBlock = some B ∨ h < B) :
 NewR c X Bc N (j + 1) (.slice (some ⟨B, 0, none⟩) (j + 1) cap) (fun i => if i = j then g else gs i) (fun i => if i = j then h else ga i) w' := by
 have bcl := lt_of_heap r.bc
 have nbl := lt_of_heap r.nb
 have own : ∀ k, v.ownBlock = some k → N + 1 ≤ k ∧ k < w.heap.size := fun k hk => World.ownsRow.lt r.ow k hk
 have e : BNS c (fun i => if i = j then g else gs i) (fun i => if i = j then h else ga i) (j + 1) = BNS c gs ga j ++ (BN (wn c j) (wn c (j + 1)) (sn c j) g c.bend h).toList := by
  show BNS c _ _ j ++ (BN _ _ _ (if j = j then g else gs j) _ (if j = j then h else ga j)).toList = _
  rw [if_pos rfl, if_pos rfl, BNS_congr c _ _ gs ga j (fun i hi => by rw [if_neg (by omega), if_neg (by omega)]; exact ⟨rfl, rfl⟩)]
 refine ⟨?_, hN, by rw [e]; exact ow, r.bN, fun i hi => ?_, fun i hi => ?_, fun i hi => ?_, fun i hi => ?_, fun i hi k hk => ?_⟩
 · refine (hb _ bcl (by have := r.bN; omega) (fun q => ?_)).trans r.bc
   have := own _ q.symm; have := r.bN; omega
 · show N < (if i = j then g else gs i) ∧ (if i = j then g else gs i) < (if i = j then h else ga i)
   by_cases q : i = j
   · rw [if_pos q, if_pos q]; omega
   · rw [if_neg q, if_neg q]; exact r.lo i (by omega)
 · show (if i = j then h else ga i) < (if i + 1 = j then g else gs (i + 1))
   by_cases q : i + 1 = j
   · rw [if_pos q, if_neg (by omega)]; have := lt_of_heap (r.za i (by omega)); omega
   · rw [if_neg q, if_neg (by omega)]; exact r.up i (by omega)
 · show w'.heap[if i = j then g else gs i]? = _
   by_cases q : i = j
   · rw [if_pos q, q]; exact zg
   · rw [if_neg q]; exact (hb _ (lt_of_heap (r.zs i (by omega))) (by have := r.lo i (by omega); omega) (fun p => (r.ne i (by omega) _ p.symm).1 rfl)).trans (r.zs i (by omega))
 · show w'.heap[if i = j then h else ga i]? = _
   by_cases q : i = j
   · rw [if_pos q, q]; exact zh
   · rw [if_neg q]; exact (hb _ (lt_of_heap (r.za i (by omega))) (by have := r.lo i (by omega); omega) (fun p => (r.ne i (by omega) _ p.symm).2 rfl)).trans (r.za i (by omega))
 · have hk' : k = B := by simpa [Value.ownBlock] using hk.symm
   subst hk'
   show (if i = j then g else gs i) ≠ k ∧ (if i = j then h else ga i) ≠ k
   rcases hB with hB | hB
   · have ob := own _ hB
     by_cases q : i = j
     · rw [if_pos q, if_pos q]; omega
     · rw [if_neg q, if_neg q]; exact r.ne i (by omega) _ hB
   · by_cases q : i = j
     · rw [if_pos q, if_pos q]; omega
     · rw [if_neg q, if_neg q]
       have := lt_of_heap (r.zs i (by omega)); have := lt_of_heap (r.za i (by omega)); omega
end Go.Proofs.YtoihkljlekknkaaGreat
/-
  A new net, of the program: the walk. Conditions: the configuration is one; its widths are 1 to 4.
-/
namespace Go.Proofs.YtoihkljlekknkaaGreat
open Go.RowKit
open Go.Joins (cell_of_block unfrozen_of_block)
set_option linter.unusedVariables false
set_option linter.unusedSimpArgs false
theorem BN_cells (a n f g : Nat) (bend : Int) (h : Nat) : ∀ u ∈ (BN a n f g bend h).toList, u.oneCell' = true := by
 intro u hu
 have := BN_one a n f g bend h
 rw [Array.all_eq_true_iff_forall_mem] at this
 exact this u (by simpa using hu)
theorem LY_infoL (a n f g : Nat) : (Tryz.prog.info? 84).map (·.size) = some (LY a n f g).toList.length := by show _ = some 5; kernel_rfl
/-- the last layer's cells -/
def LA (a n f g : Nat) (loss : Int) : Array Value := #[.int .i64 (a : Int), .int .i64 (n : Int), .int .i64 (f : Int), .slice none 0 0, .slice (some ⟨g, 0, none⟩) n n, .int .i64 loss]
theorem LA_one (a n f g : Nat) (loss : Int) : (LA a n f g loss).all (·.oneCell') = true := by simp [LA, Value.oneCell']
theorem LA_info (a n f g : Nat) (loss : Int) : (Tryz.prog.info? 86).map (·.size) = some (LA a n f g loss).size := by show _ = some 6; kernel_rfl
/-- a net's struct, done -/
def NC (v : Value) (a n f g : Nat) (loss : Int) : Array Value := #[v, .int .i64 (a : Int), .int .i64 (n : Int), .int .i64 (f : Int), .slice none 0 0, .slice (some ⟨g, 0, none⟩) n n, .int .i64 loss]
theorem set_last {w : World} {N : Nat} {v : Value} (h : w.heap[N]? = some (.cells (zn v) 88 (0, 0))) (a n f g : Nat) (loss : Int) :
 (w.setCells N 1 (LA a n f g loss).toList).heap[N]? = some (.cells (NC v a n f g loss) 88 (0, 0)) ∧ But (fun k => k = N) w (w.setCells N 1 (LA a n f g loss).toList) ∧ w.there N 1 (LA a n f g loss).size := by
 refine ⟨?_, ?_, fun i hi => ?_⟩
 · show ((((((w.setCell ⟨N, 1, none⟩ _).setCell ⟨N, 1 + 1, none⟩ _).setCell ⟨N, 1 + 1 + 1, none⟩ _).setCell ⟨N, 1 + 1 + 1 + 1, none⟩ _).setCell ⟨N, 1 + 1 + 1 + 1 + 1, none⟩ _).setCell ⟨N, 1 + 1 + 1 + 1 + 1 + 1, none⟩ _).heap[N]? = _
   rw [heap_set _ N _ _ _ 88 (0, 0) (heap_set _ N _ _ _ 88 (0, 0) (heap_set _ N _ _ _ 88 (0, 0) (heap_set _ N _ _ _ 88 (0, 0) (heap_set _ N _ _ _ 88 (0, 0) (heap_set _ N _ _ _ 88 (0, 0) h)))))]
   simp [zn, NC]
 · show But _ w ((((((w.setCell ⟨N, 1, none⟩ _).setCell ⟨N, 1 + 1, none⟩ _).setCell ⟨N, 1 + 1 + 1, none⟩ _).setCell ⟨N, 1 + 1 + 1 + 1, none⟩ _).setCell ⟨N, 1 + 1 + 1 + 1 + 1, none⟩ _).setCell ⟨N, 1 + 1 + 1 + 1 + 1 + 1, none⟩ _)
   have q : ∀ (a : World) (o : Nat) (x : Value), But (fun k => k = N) a (a.setCell ⟨N, o, none⟩ x) := fun a o x => But.set a N o x rfl
   exact (((((q _ _ _).trans (q _ _ _)).trans (q _ _ _)).trans (q _ _ _)).trans (q _ _ _)).trans (q _ _ _)
 · have hi6 : i < 6 := hi
   refine ⟨?_, unfrozen_of_block h _⟩
   rw [cell_of_block h]
   rcases (show i = 0 ∨ i = 1 ∨ i = 2 ∨ i = 3 ∨ i = 4 ∨ i = 5 by omega) with rfl | rfl | rfl | rfl | rfl | rfl <;> rfl
theorem new_done {c : Cf} {X : Array Value} {Bc N m : Nat} {v : Value} {gs ga : Nat → Nat} {w0 w w' : World} (r : NewR c X Bc N m v gs ga w) (g : Nat) (lg : w.heap.size ≤ g) (bw : Below w0.heap.size w0 w) (hN0 : w0.heap.size ≤ N)
 (hb : ∀ k, k < w.heap.size → k ≠ N → w'.heap[k]? = w.heap[k]?) (hN : w'.heap[N]? = some (.cells (NC v (wn c m) (wn c (m + 1)) (sn c m) g c.loss) 88 (0, 0)))
 (zg : w'.heap[g]? = some (.cells (u32s (List.replicate (wn c (m + 1)) 0)) 29 (0, 0))) (wb : WB c) (m3 : m < 3) (one : ∀ k, k ≤ m + 1 → 1 ≤ wn c k) :
 ∃ t : Nt, t.c = c ∧ t.m = m ∧ t.N = N ∧ t.ok ∧ NetR t w' ∧ (∀ b, t.O b → w0.heap.size ≤ b) := by
 have nbl := lt_of_heap r.nb
 have up : ∀ i j, i < j → j < m → ga i < gs j := fun i j => by
  induction j with
  | zero => intro h; omega
  | succ j ih =>
    intro h1 h2
    by_cases e : i = j
    · subst e; exact r.up i h2
    · have h3 := ih (by omega) (by omega); have h4 := (r.lo j (by omega)).2; have h5 := r.up j h2; omega
 have lim : ∀ i, i < m → gs i < w.heap.size ∧ ga i < w.heap.size := fun i hi => ⟨lt_of_heap (r.zs i hi), lt_of_heap (r.za i hi)⟩
 obtain ⟨A, Bb, cB, hv, hA, hBb, hC⟩ : ∃ A Bb cB, v = .slice A m cB ∧ (0 < m → A = some ⟨Bb, 0, none⟩) ∧ (N < Bb ∧ (∀ i, i < m → gs i ≠ Bb ∧ ga i ≠ Bb) ∧ g ≠ Bb) ∧ (0 < m → ∃ C, w'.heap[Bb]? = some (.cells C 91 (0, 0)) ∧ ∀ k i, k < m → i < 7 → C[k * 7 + i]? = (BN (wn c k) (wn c (k + 1)) (sn c k) (gs k) c.bend (ga k))[i]?) := by
  rcases r.ow.2 with ⟨e, e0⟩ | ⟨B, cap, cur, e, h1, h2, h3, h4, h5, h6⟩
  · exact ⟨none, g + 1, 0, by rw [e, e0], fun h => absurd h (by omega), ⟨by omega, fun i hi => absurd hi (by omega), by omega⟩, fun h => absurd h (by omega)⟩
  · have bl := lt_of_heap h2
    refine ⟨_, B, cap, e, fun _ => rfl, ⟨by omega, fun i hi => r.ne i hi B (by rw [e]; rfl), by omega⟩, fun _ => ⟨cur, (hb B bl (by omega)).trans h2, fun k i hk hi => ?_⟩⟩
    rw [← BNS_at c gs ga m k i hk hi, ← h6, List.getElem?_take_of_lt (by omega), Array.getElem?_toList]
 refine ⟨⟨c, m, N, Bb, cB, A, 88, 91, fun i => if i = m then g else gs i, ga⟩, rfl, rfl, rfl, ⟨wb, m3, one, hA, by show N ≠ Bb; omega, fun k hk => ?_, fun k hk => ?_, fun k hk => ?_, fun k hk => ?_, fun j k hj hk hjk => ?_, fun j k hj hk hjk => ?_, fun j k hj hk => ?_⟩, ⟨⟨_, hN, ?_, fun e => absurd e (by omega)⟩, fun hm => ?_, fun k hk => ?_, fun k hk => ?_⟩, fun b hb' => ?_⟩
 · show N ≠ (if k = m then g else gs k)
   by_cases e : k = m
   · rw [if_pos e]; omega
   · rw [if_neg e]; have hk' : k ≤ m := hk; have := (r.lo k (by omega)).1; omega
 · show N ≠ ga k; have := r.lo k hk; omega
 · show Bb ≠ (if k = m then g else gs k)
   by_cases e : k = m
   · rw [if_pos e]; exact Ne.symm hBb.2.2
   · rw [if_neg e]; have hk' : k ≤ m := hk; exact Ne.symm (hBb.2.1 k (by omega)).1
 · exact Ne.symm (hBb.2.1 k hk).2
 · show (if j = m then g else gs j) ≠ (if k = m then g else gs k)
   have hj' : j ≤ m := hj
   have hk' : k ≤ m := hk
   by_cases e : j = m
   · rw [if_pos e, if_neg (by omega)]; have := lim k (by omega); omega
   · rw [if_neg e]
     by_cases e2 : k = m
     · rw [if_pos e2]; have := lim j (by omega); omega
     · rw [if_neg e2]
       rcases Nat.lt_or_gt_of_ne hjk with q | q
       · have := up j k q (by omega); have := r.lo j (by omega); omega
       · have := up k j q (by omega); have := r.lo k (by omega); omega
 · show ga j ≠ ga k
   rcases Nat.lt_or_gt_of_ne hjk with q | q
   · have := up j k q hk; have := r.lo k hk; omega
   · have := up k j q hj; have := r.lo j hj; omega
 · show (if j = m then g else gs j) ≠ ga k
   have hj' : j ≤ m := hj
   by_cases e : j = m
   · rw [if_pos e]; have := lim k hk; omega
   · rw [if_neg e]
     rcases Nat.lt_trichotomy j k with q | q | q
     · have := up j k q hk; have := r.lo j (by omega); have := r.lo k hk; omega
     · subst q; have := r.lo j hk; omega
     · have := up k j q (by omega); omega
 · refine ⟨by rw [← hv]; rfl, rfl, rfl, rfl, by show 1 + 3 < 7; omega, ?_, rfl⟩
   show some _ = some (Value.slice (some ⟨if m = m then g else gs m, 0, none⟩) _ _)
   rw [if_pos rfl]
   rfl
 · obtain ⟨C, h1, h2⟩ := hC hm
   refine ⟨C, h1, fun k hk => ⟨⟨(h2 k 0 hk (by omega)), (h2 k 1 hk (by omega)), (h2 k 2 hk (by omega)), ?_, ?_, (h2 k 5 hk (by omega)), (h2 k 6 hk (by omega))⟩, fun e => absurd e (by omega)⟩⟩
   · exact (Array.getElem?_eq_some_iff.1 (h2 k 3 hk (by omega))).1
   · refine (h2 k 4 hk (by omega)).trans ?_
     show some _ = some (Value.slice (some ⟨if k = m then g else gs k, 0, none⟩) _ _)
     have hk' : k < m := hk
     rw [if_neg (by omega)]
     rfl
 · show ∃ l, w'.heap[if k = m then g else gs k]? = _ ∧ _
   have hk' : k ≤ m := hk
   by_cases e : k = m
   · rw [if_pos e, e]; exact ⟨_, zg, List.length_replicate, fun e => absurd e (by omega)⟩
   · rw [if_neg e]; exact ⟨_, (hb _ (lim k (by omega)).1 (by have := r.lo k (by omega); omega)).trans (r.zs k (by omega)), List.length_replicate, fun e => absurd e (by omega)⟩
 · have hk' : k < m := hk
   exact ⟨_, (hb _ (lim k hk').2 (by have := r.lo k hk'; omega)).trans (r.za k hk'), List.length_replicate, fun e => absurd e (by omega)⟩
 · have bz := bw.size
   rcases hb' with rfl | ⟨_, rfl⟩ | ⟨i, hi, rfl⟩ | ⟨i, hi, rfl⟩
   · exact hN0
   · have := hBb.1; omega
   · show _ ≤ (if i = m then g else gs i)
     have hi' : i ≤ m := hi
     by_cases e : i = m
     · rw [if_pos e]; omega
     · rw [if_neg e]; have := r.lo i (by omega); omega
   · show _ ≤ ga i; have := r.lo i hi; omega
end Go.Proofs.YtoihkljlekknkaaGreat
