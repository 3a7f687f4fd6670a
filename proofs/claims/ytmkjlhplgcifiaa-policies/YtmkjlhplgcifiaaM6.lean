/-
  A policy lent.
-/
import Derived.Test.YtmkjlhplgcifiaaM5
namespace Go.Proofs.Ytmkjlhplgcifiaa
open Go.ChangeShapes Go.WideShapes Go.ChangeAt Go.RowKit
attribute [local simp] World.cell?_grow
attribute [local go_sem] World.cell?_grow
attribute [local simp] World.cell?_alloc_there
attribute [local go_sem] World.cell?_alloc_there
attribute [local go_sem] eqg_blk std_blk eqg_pod std_pod eqg_sel std_sel eqg_prt std_prt
attribute [local go_sem ↓] eql_blk eql_sel neq_sel eql_prt eql_pod
attribute [local go_sem ↓] met_in1 met_in2 met_re1 met_re2
set_option linter.unusedVariables false
set_option linter.unusedSimpArgs false

theorem lnRules.mono {lo hi lo' hi' : Nat} {w0 w : World} {a : Option Addr} {v : Value} {l : List DRule} (h : lnRules lo hi w0 w a v l) (h1 : lo' ≤ lo) (h2 : hi ≤ hi') : lnRules lo' hi' w0 w a v l := by
  rcases h with h | ⟨a', g, f, g1, g2, g3, g4, g5, g6, g7⟩
  · exact Or.inl h
  · exact Or.inr ⟨a', g, f, g1, by omega, by omega, g4, g5, by omega, g7⟩

theorem fz1 (w : World) (c : Array Value) (t : TypeId) (B : Obj) : ∀ o, ((w.alloc (.cells c t)).alloc B).frozen? ⟨w.heap.size, o, none⟩ = false := fun o => by
  have h : ((w.alloc (.cells c t)).alloc B).heap[w.heap.size]? = some (.cells c t) := by
    rw [Below.heap_alloc _ _ _ (by rw [World.size_alloc]; omega)]; exact alloc_heap _ _
  simp only [World.frozen?, h]
  simp
theorem fz2 (w : World) (A : Obj) (c : Array Value) (t : TypeId) : ∀ o, ((w.alloc A).alloc (.cells c t)).frozen? ⟨w.heap.size + 1, o, none⟩ = false := fun o => by
  have h := alloc_heap (w.alloc A) (.cells c t)
  rw [World.size_alloc] at h
  simp only [World.frozen?, h]
  simp

set_option maxRecDepth 100000 in
set_option maxHeartbeats 4000000 in
theorem lentPolicy_any (p : DPol) (oa ia : Option Addr) (oc ic : Nat) (w : World) (ho : rdRules w.heap.size w oa p.outs) (hi : rdRules w.heap.size w ia p.ins) :
    Calls Try.prog 15 #[.agg #[.int .i64 p.space, .int .i64 p.need, .int .i64 p.ban, .int .i64 p.ways, .slice oa p.outs.length oc, .slice ia p.ins.length ic]] w
      fun e w' => ∃ m sa sn sc ta tn tc, e = .returned (.agg #[.int .i64 p.space, .int .i64 p.need, .int .i64 p.ban, .int .i64 p.ways, .slice sa sn sc, .slice ta tn tc]) ∧ w.heap.size ≤ m ∧ m ≤ w'.heap.size ∧
        lnRules w.heap.size m w w' oa (.slice sa sn sc) p.outs ∧ lnRules m w'.heap.size w w' ia (.slice ta tn tc) p.ins ∧ Below w.heap.size w w' := by
  have HO := hid ho
  have HI := hid hi
  clear ho hi
  go_enter Try.func15, Try.ntmps15
  go_wp2_with fail
  generalize hW : (w.alloc (Obj.cells #[.int .i64 p.space, .int .i64 p.need, .int .i64 p.ban, .int .i64 p.ways, .slice oa p.outs.length oc, .slice ia p.ins.length ic] 37)).alloc (Obj.cells #[.int .i64 0, .int .i64 0, .int .i64 0, .int .i64 0, .slice none 0 0, .slice none 0 0] 37) = W
  have hsW : W.heap.size = w.heap.size + 2 := by rw [← hW]; simp
  have q0 : W.cell? ⟨w.heap.size, 0, none⟩ = some (.int .i64 p.space) := by rw [← hW]; simp [go_sem]
  have q1 : W.cell? ⟨w.heap.size, 1, none⟩ = some (.int .i64 p.need) := by rw [← hW]; simp [go_sem]
  have q2 : W.cell? ⟨w.heap.size, 2, none⟩ = some (.int .i64 p.ban) := by rw [← hW]; simp [go_sem]
  have q3 : W.cell? ⟨w.heap.size, 3, none⟩ = some (.int .i64 p.ways) := by rw [← hW]; simp [go_sem]
  have q4 : W.cell? ⟨w.heap.size, 4, none⟩ = some (.slice oa p.outs.length oc) := by rw [← hW]; simp [go_sem]
  have q5 : W.cell? ⟨w.heap.size, 5, none⟩ = some (.slice ia p.ins.length ic) := by rw [← hW]; simp [go_sem]
  have r0 : W.cell? ⟨w.heap.size + 1, 0, none⟩ = some (.int .i64 0) := by rw [← hW]; simp [go_sem]
  have r1 : W.cell? ⟨w.heap.size + 1, 1, none⟩ = some (.int .i64 0) := by rw [← hW]; simp [go_sem]
  have r2 : W.cell? ⟨w.heap.size + 1, 2, none⟩ = some (.int .i64 0) := by rw [← hW]; simp [go_sem]
  have r3 : W.cell? ⟨w.heap.size + 1, 3, none⟩ = some (.int .i64 0) := by rw [← hW]; simp [go_sem]
  have r4 : W.cell? ⟨w.heap.size + 1, 4, none⟩ = some (.slice none 0 0) := by rw [← hW]; simp [go_sem]
  have r5 : W.cell? ⟨w.heap.size + 1, 5, none⟩ = some (.slice none 0 0) := by rw [← hW]; simp [go_sem]
  have F0 := hid (show ∀ o, W.frozen? ⟨w.heap.size, o, none⟩ = false from fun o => by rw [← hW]; exact fz1 _ _ _ _ o)
  have F1 := hid (show ∀ o, W.frozen? ⟨w.heap.size + 1, o, none⟩ = false from fun o => by rw [← hW]; exact fz2 _ _ _ _ o)
  have HBW := hid (show Below w.heap.size w W from by rw [← hW]; exact (by repeat (first | exact Below.refl _ _ | assumption | apply Ext.alloc | apply Ext.drewN | apply Ext.drew | refine Ext.trans ?_ (by assumption))))
  clear hW
  refine (lentRules_any p.outs oa oc W (rdRules.to HO.out HBW.out)).mono ?_
  rintro e w1 ⟨v1, rfl, hln, hb1⟩
  obtain ⟨sa, sn, sc, hve⟩ := hln.sl
  subst hve
  have HN1 := hid (lnRules.base HO.out HBW.out hln)
  have HB1 := hid hb1
  have hs1 := hb1.size
  have a0 := cell_to q0 hb1
  have a1 := cell_to q1 hb1
  have a2 := cell_to q2 hb1
  have a3 := cell_to q3 hb1
  have a4 := cell_to q4 hb1
  have a5 := cell_to q5 hb1
  have b0 := cell_to r0 hb1
  have b1 := cell_to r1 hb1
  have b2 := cell_to r2 hb1
  have b3 := cell_to r3 hb1
  have b4 := cell_to r4 hb1
  have b5 := cell_to r5 hb1
  have f0 : ∀ o, w1.frozen? ⟨w.heap.size, o, none⟩ = false := fun o => by rw [hb1.frozen (p := ⟨w.heap.size, o, none⟩) (by show w.heap.size < _; omega)]; exact F0.out o
  have f1 : ∀ o, w1.frozen? ⟨w.heap.size + 1, o, none⟩ = false := fun o => by rw [hb1.frozen (p := ⟨w.heap.size + 1, o, none⟩) (by show w.heap.size + 1 < _; omega)]; exact F1.out o
  clear q0 q1 q2 q3 q4 q5 r0 r1 r2 r3 r4 r5 hln hb1
  go_wp2_with fail
  generalize hX : w1.setCell ⟨w.heap.size, 4, none⟩ (.slice sa sn sc) = X
  have hsX : X.heap.size = w1.heap.size := by rw [← hX]; simp [World.setCell]
  have c0 : X.cell? ⟨w.heap.size, 0, none⟩ = some (.int .i64 p.space) := by rw [← hX, World.cell?_setCell_other _ _ _ _ (fun h => by simp at h)]; exact a0
  have c1 : X.cell? ⟨w.heap.size, 1, none⟩ = some (.int .i64 p.need) := by rw [← hX, World.cell?_setCell_other _ _ _ _ (fun h => by simp at h)]; exact a1
  have c2 : X.cell? ⟨w.heap.size, 2, none⟩ = some (.int .i64 p.ban) := by rw [← hX, World.cell?_setCell_other _ _ _ _ (fun h => by simp at h)]; exact a2
  have c3 : X.cell? ⟨w.heap.size, 3, none⟩ = some (.int .i64 p.ways) := by rw [← hX, World.cell?_setCell_other _ _ _ _ (fun h => by simp at h)]; exact a3
  have c4 : X.cell? ⟨w.heap.size, 4, none⟩ = some (.slice sa sn sc) := by rw [← hX]; exact World.cell?_setCell_same w1 _ _ a4
  have c5 : X.cell? ⟨w.heap.size, 5, none⟩ = some (.slice ia p.ins.length ic) := by rw [← hX, World.cell?_setCell_other _ _ _ _ (fun h => by simp at h)]; exact a5
  have hXb : ∀ j, j ≠ w.heap.size → X.heap[j]? = w1.heap[j]? := fun j hj => by rw [← hX]; exact Below.heap_setCell _ _ _ _ hj
  have d0 : X.cell? ⟨w.heap.size + 1, 0, none⟩ = some (.int .i64 0) := by rw [cell_heap (hXb _ (by omega))]; exact b0
  have d1 : X.cell? ⟨w.heap.size + 1, 1, none⟩ = some (.int .i64 0) := by rw [cell_heap (hXb _ (by omega))]; exact b1
  have d2 : X.cell? ⟨w.heap.size + 1, 2, none⟩ = some (.int .i64 0) := by rw [cell_heap (hXb _ (by omega))]; exact b2
  have d3 : X.cell? ⟨w.heap.size + 1, 3, none⟩ = some (.int .i64 0) := by rw [cell_heap (hXb _ (by omega))]; exact b3
  have d4 : X.cell? ⟨w.heap.size + 1, 4, none⟩ = some (.slice none 0 0) := by rw [cell_heap (hXb _ (by omega))]; exact b4
  have d5 : X.cell? ⟨w.heap.size + 1, 5, none⟩ = some (.slice none 0 0) := by rw [cell_heap (hXb _ (by omega))]; exact b5
  have HXB := hid hXb
  have g0 : ∀ o, X.frozen? ⟨w.heap.size, o, none⟩ = false := fun o => by rw [← hX]; exact (own_set (n := 0) ⟨fun o ho => absurd ho (Nat.not_lt_zero _), f0⟩ 4 _).2 o
  have g1 : ∀ o, X.frozen? ⟨w.heap.size + 1, o, none⟩ = false := fun o => by rw [World.frozen?_of_block (w := w1) (a := ⟨w.heap.size + 1, o, none⟩) (hXb (w.heap.size + 1) (by omega))]; exact f1 o
  have HBX := hid (show Below w.heap.size w X from by rw [← hX]; exact (Ext.trans HBW.out HB1.out).setCell (Nat.le_refl _) _)
  clear hX hXb a0 a1 a2 a3 a4 a5 b0 b1 b2 b3 b4 b5 f0 f1
  refine (lentRules_any p.ins ia ic X (rdRules.to HI.out HBX.out)).mono ?_
  rintro e w2 ⟨v2, rfl, hln, hb2⟩
  obtain ⟨ta, tn, tc, hte⟩ := hln.sl
  subst hte
  have HN2 := hid (lnRules.base HI.out HBX.out hln)
  have HB2 := hid hb2
  have hs2 := hb2.size
  have a0 := cell_to c0 hb2
  have a1 := cell_to c1 hb2
  have a2 := cell_to c2 hb2
  have a3 := cell_to c3 hb2
  have a4 := cell_to c4 hb2
  have a5 := cell_to c5 hb2
  have b0 := cell_to d0 hb2
  have b1 := cell_to d1 hb2
  have b2 := cell_to d2 hb2
  have b3 := cell_to d3 hb2
  have b4 := cell_to d4 hb2
  have b5 := cell_to d5 hb2
  have f0 : ∀ o, w2.frozen? ⟨w.heap.size, o, none⟩ = false := fun o => by rw [hb2.frozen (p := ⟨w.heap.size, o, none⟩) (by show w.heap.size < _; omega)]; exact g0 o
  have f1 : ∀ o, w2.frozen? ⟨w.heap.size + 1, o, none⟩ = false := fun o => by rw [hb2.frozen (p := ⟨w.heap.size + 1, o, none⟩) (by show w.heap.size + 1 < _; omega)]; exact g1 o
  clear c0 c1 c2 c3 c4 c5 d0 d1 d2 d3 d4 d5 g0 g1 hln hb2
  go_wp2
  generalize hY : (((((((w2.setCell ⟨w.heap.size, 5, none⟩ (.slice ta tn tc)).setCell ⟨w.heap.size + 1, 0, none⟩ (.int .i64 p.space)).setCell ⟨w.heap.size + 1, 1, none⟩ (.int .i64 p.need)).setCell ⟨w.heap.size + 1, 2, none⟩ (.int .i64 p.ban)).setCell ⟨w.heap.size + 1, 3, none⟩ (.int .i64 p.ways)).setCell ⟨w.heap.size + 1, 4, none⟩ (.slice sa sn sc)).setCell ⟨w.heap.size + 1, 5, none⟩ (.slice ta tn tc)) = Y
  have hY2 : Y = sets (w2.setCell ⟨w.heap.size, 5, none⟩ (.slice ta tn tc)) (w.heap.size + 1) 0 [.int .i64 p.space, .int .i64 p.need, .int .i64 p.ban, .int .i64 p.ways, .slice sa sn sc, .slice ta tn tc] := hY.symm
  clear hY
  have hsY : Y.heap.size = w2.heap.size := by rw [hY2, sets_size]; simp [World.setCell]
  have hYb : ∀ j, j ≠ w.heap.size → j ≠ w.heap.size + 1 → Y.heap[j]? = w2.heap[j]? := fun j h1 h2 => by rw [hY2, sets_block _ _ _ _ _ h2, Below.heap_setCell _ _ _ _ h1]
  have hown : own (w2.setCell ⟨w.heap.size, 5, none⟩ (.slice ta tn tc)) (w.heap.size + 1) 6 := by
    refine own_heap (w := w2) ⟨fun o ho => ?_, f1⟩ (Below.heap_setCell _ _ _ _ (by show w.heap.size + 1 ≠ w.heap.size; omega))
    match o, ho with
    | 0, _ => exact ⟨_, b0⟩
    | 1, _ => exact ⟨_, b1⟩
    | 2, _ => exact ⟨_, b2⟩
    | 3, _ => exact ⟨_, b3⟩
    | 4, _ => exact ⟨_, b4⟩
    | 5, _ => exact ⟨_, b5⟩
  have yc : ∀ i v, ([.int .i64 p.space, .int .i64 p.need, .int .i64 p.ban, .int .i64 p.ways, .slice sa sn sc, .slice ta tn tc] : List Value)[i]? = some v → Y.cell? ⟨w.heap.size + 1, i, none⟩ = some v := fun i v hv => by
    have := sets_at _ _ 0 6 _ i v hv (by simp) hown
    rw [hY2]
    simpa using this
  have y0 := yc 0 _ rfl
  have y1 := yc 1 _ rfl
  have y2 := yc 2 _ rfl
  have y3 := yc 3 _ rfl
  have y4 := yc 4 _ rfl
  have y5 := yc 5 _ rfl
  have hBY : Below w.heap.size w Y := by
    refine (Ext.trans HBX.out HB2.out).trans ?_
    exact ⟨by rw [hY2]; exact ((Only.refl _ _ _).setCell (p := ⟨w.heap.size, 5, none⟩) (lo := w.heap.size) (hi := w.heap.size + 1) (Nat.le_refl _) (Nat.lt_succ_self _) _ |>.mono (lo' := w.heap.size) (hi' := w.heap.size + 2) (Nat.le_refl _) (by omega) |>.trans ((sets_only _ _ _ _).mono (by omega) (by omega))).1.1,
      by rw [hY2]; exact ((Only.refl _ _ _).setCell (p := ⟨w.heap.size, 5, none⟩) (lo := w.heap.size) (hi := w.heap.size + 1) (Nat.le_refl _) (Nat.lt_succ_self _) _ |>.mono (lo' := w.heap.size) (hi' := w.heap.size + 2) (Nat.le_refl _) (by omega) |>.trans ((sets_only _ _ _ _).mono (by omega) (by omega))).1.2.1,
      by rw [hY2]; exact ((Only.refl _ _ _).setCell (p := ⟨w.heap.size, 5, none⟩) (lo := w.heap.size) (hi := w.heap.size + 1) (Nat.le_refl _) (Nat.lt_succ_self _) _ |>.mono (lo' := w.heap.size) (hi' := w.heap.size + 2) (Nat.le_refl _) (by omega) |>.trans ((sets_only _ _ _ _).mono (by omega) (by omega))).1.2.2,
      by omega, fun j hj => hYb j (by omega) (by omega)⟩
  refine bodyPost_ret (v := .agg #[.int .i64 p.space, .int .i64 p.need, .int .i64 p.ban, .int .i64 p.ways, .slice sa sn sc, .slice ta tn tc]) (by simp [results, Try.results15, go_sem, y0, y1, y2, y3, y4, y5]) rfl ⟨w1.heap.size, sa, sn, sc, ta, tn, tc, rfl, by omega, by omega, ?_, ?_, hBY⟩
  · refine (HN1.out.heap fun j h1 h2 => ?_).mono (by omega) (Nat.le_refl _)
    rw [hYb j (by omega) (by omega), HB2.out.block j (by omega), HXB.out j (by omega)]
  · refine (HN2.out.heap fun j h1 h2 => ?_).mono (by omega) (by omega)
    exact hYb j (by omega) (by omega)
end Go.Proofs.Ytmkjlhplgcifiaa
