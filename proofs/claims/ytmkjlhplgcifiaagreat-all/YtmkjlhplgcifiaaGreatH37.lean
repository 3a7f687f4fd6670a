/-
  A cluster lent.
-/
import Derived.Test.YtmkjlhplgcifiaaGreatH36
import Derived.Test.YtmkjlhplgcifiaaGreatH35
import Derived.Test.YtmkjlhplgcifiaaGreatH02
import Derived.Deep.RegionHeld3
namespace Go.Proofs.YtmkjlhplgcifiaaGreat
open Go.ChangeShapes Go.WideShapes Go.ChangeAt Go.RowKit
set_option linter.unusedVariables false
set_option linter.unusedSimpArgs false
attribute [local simp] World.cell?_grow World.cell?_alloc_there
attribute [local go_sem] World.cell?_grow World.cell?_alloc_there eqg_blk std_blk eqg_pod std_pod eqg_sel std_sel eqg_prt std_prt
attribute [local go_sem ↓] eql_blk eql_sel neq_sel eql_prt eql_pod met_in1 met_in2 met_re1 met_re2
set_option maxRecDepth 100000 in
set_option maxHeartbeats 8000000 in
theorem lent_pq (c : DClu) (pa : Addr) (qa : Addr) (pc qc : Nat) (w : World) (hp : rdPods w.heap.size w (some pa) c.pods) (hq : rdPols w.heap.size w (some qa) c.pols) :
    Calls Tryz.prog 73 #[.agg #[.slice (some pa) c.pods.length pc, .slice (some qa) c.pols.length qc]] w
      fun e w' => ∃ m sa sn sc ta tn tc, e = .returned (.agg #[.slice sa sn sc, .slice ta tn tc]) ∧ w.heap.size ≤ m ∧ m ≤ w'.heap.size ∧ lnPods w.heap.size m w' (some pa) (.slice sa sn sc) c.pods ∧ lnPols m w'.heap.size w w' (some qa) (.slice ta tn tc) c.pols ∧ Below w.heap.size w w' := by
  have hqp : ∀ w, (binOp .neq 25 (.slice (some pa) c.pods.length pc) (.slice none 0 0)).run Tryz.prog w = .ok (.bool true) w := fun w => run_neq_slice_nil_any w 25 54 _ _ _ _ _ und_pod
  have hqq : ∀ w, (binOp .neq 26 (.slice (some qa) c.pols.length qc) (.slice none 0 0)).run Tryz.prog w = .ok (.bool true) w := fun w => run_neq_slice_nil_any w 26 59 _ _ _ _ _ und_pol
  have hlp := hp.1
  obtain ⟨Z, hZ, hmk⟩ := make_pod c.pods.length hlp
  have hfl := flat_len oCells 4 lens_pod c.pods
  have hcp := copy_big Tryz.prog ((((w.alloc (Obj.cells #[.slice (some pa) c.pods.length pc, .slice (some qa) c.pols.length qc] 28)).alloc (Obj.cells #[.slice none 0 0, .slice none 0 0] 28)).alloc (Obj.cells #[.slice none 0 0, .slice none 0 0] 28)).alloc (.cells Z 54)) 25 25 3 54 (((w.alloc (Obj.cells #[.slice (some pa) c.pods.length pc, .slice (some qa) c.pols.length qc] 28)).alloc (Obj.cells #[.slice none 0 0, .slice none 0 0] 28)).alloc (Obj.cells #[.slice none 0 0, .slice none 0 0] 28)).heap.size (c.pods.length + 1) (c.pods.length + 1) pa c.pods.length pc 4 Z 54 (c.pods.flatMap oCells) und_pod siz_pod (alloc_heap _ _) hfl (by omega)
    (fun j v hj => cell_past (cell_past (cell_past (cell_past (src_pod _ w pa c.pods hp j v hj))))) (by rw [hfl, hZ, Nat.succ_mul]; omega) (fun v hv => by
      obtain ⟨x, _, hx⟩ := List.mem_flatMap.1 hv
      simp [oCells] at hx
      rcases hx with rfl | rfl | rfl | rfl <;> rfl)
  rw [setRow_alloc] at hcp
  obtain ⟨C, hC⟩ : ∃ C, C = (c.pods.flatMap oCells ++ Z.toList.drop (c.pods.flatMap oCells).length).toArray := ⟨_, rfl⟩
  rw [← hC] at hcp
  simp only [World.size_alloc] at hcp
  have HCg := hid (show ∀ r, r < 4 → C[c.pods.length * 4 + r]? = some (Z.getD (c.pods.length * 4 + r) default) from fun r hr => by
    rw [hC, List.getElem?_toArray, flat_end oCells 4 lens_pod, List.getElem?_drop, hfl]
    have : c.pods.length * 4 + r < Z.size := by rw [hZ, Nat.succ_mul]; omega
    simp [Array.getD, this])
  have HD := hid (show ((((C.setIfInBounds (c.pods.length * 4) (.int .i64 (-7))).setIfInBounds (c.pods.length * 4 + 1) (.int .i64 0)).setIfInBounds (c.pods.length * 4 + 2) (.int .i64 0)).setIfInBounds (c.pods.length * 4 + 3) (.int .i64 0)) = (c.pods.flatMap oCells ++ ([.int .i64 (-7), .int .i64 0, .int .i64 0, .int .i64 0] : List Value)).toArray by
    rw [hC]
    have hdl : (Z.toList.drop (c.pods.flatMap oCells).length).length = 4 := by rw [List.length_drop, hfl]; simp [hZ, Nat.succ_mul]
    generalize Z.toList.drop (c.pods.flatMap oCells).length = t at hdl
    match t, hdl with
    | [t0, t1, t2, t3], _ =>
      apply Array.ext'
      simp only [Array.toList_setIfInBounds]
      rw [← hfl]
      simp [List.set_append])
  clear hC hZ hp
  have q0 : C[c.pods.length * 4]? = some (Z.getD (c.pods.length * 4 + 0) default) := HCg.out 0 (by omega)
  have q1 : C[c.pods.length * 4 + 1]? = some (Z.getD (c.pods.length * 4 + 1) default) := HCg.out 1 (by omega)
  have q2 : C[c.pods.length * 4 + 2]? = some (Z.getD (c.pods.length * 4 + 2) default) := HCg.out 2 (by omega)
  have q3 : C[c.pods.length * 4 + 3]? = some (Z.getD (c.pods.length * 4 + 3) default) := HCg.out 3 (by omega)
  have hlq := hq.1
  have HQ := hid hq
  clear hq
  obtain ⟨Y, hY, hmy⟩ := make_pol c.pols.length hlq
  go_enter Tryz.func73, Tryz.ntmps73
  go_wp2
  rw [HD.out]
  have HOY := hid (fun V : World => own_of (alloc_heap V (.cells Y 59)) hY)
  clear hY
  generalize hV : (((w.alloc (Obj.cells #[.slice (some pa) c.pods.length pc, .slice (some qa) c.pols.length qc] 28)).alloc (Obj.cells #[.slice none 0 0, .slice none 0 0] 28)).alloc (Obj.cells #[.slice (some ⟨w.heap.size + 1 + 1 + 1, 0, none⟩) c.pods.length (c.pods.length + 1), .slice none 0 0] 28)).alloc (Obj.cells (c.pods.flatMap oCells ++ ([.int .i64 (-7), .int .i64 0, .int .i64 0, .int .i64 0] : List Value)).toArray 54) = V
  have hsV : V.heap.size = w.heap.size + 1 + 1 + 1 + 1 := by rw [← hV]; simp
  have v1 : V.cell? ⟨w.heap.size, 1, none⟩ = some (.slice (some qa) c.pols.length qc) := by rw [← hV]; simp [go_sem]
  have h0 : V.cell? ⟨w.heap.size + 1 + 1, 0, none⟩ = some (.slice (some ⟨w.heap.size + 1 + 1 + 1, 0, none⟩) c.pods.length (c.pods.length + 1)) := by rw [← hV]; simp [go_sem]
  have h1 : V.cell? ⟨w.heap.size + 1 + 1, 1, none⟩ = some (.slice none 0 0) := by rw [← hV]; simp [go_sem]
  have r0 : V.cell? ⟨w.heap.size + 1, 0, none⟩ = some (.slice none 0 0) := by rw [← hV]; simp [go_sem]
  have r1 : V.cell? ⟨w.heap.size + 1, 1, none⟩ = some (.slice none 0 0) := by rw [← hV]; simp [go_sem]
  have HF1 := hid (show ∀ o, V.frozen? ⟨w.heap.size + 1, o, none⟩ = false from fun o => by
    rw [← hV, World.frozen?_of_block (w := (w.alloc (Obj.cells #[.slice (some pa) c.pods.length pc, .slice (some qa) c.pols.length qc] 28)).alloc (Obj.cells #[.slice none 0 0, .slice none 0 0] 28)) (a := ⟨w.heap.size + 1, o, none⟩) (by simp only [Below.heap_alloc _ _ (w.heap.size + 1) (show w.heap.size + 1 < (((w.alloc (Obj.cells #[.slice (some pa) c.pods.length pc, .slice (some qa) c.pols.length qc] 28)).alloc (Obj.cells #[.slice none 0 0, .slice none 0 0] 28)).alloc (Obj.cells #[.slice (some ⟨w.heap.size + 1 + 1 + 1, 0, none⟩) c.pods.length (c.pods.length + 1), .slice none 0 0] 28)).heap.size by simp), Below.heap_alloc _ _ (w.heap.size + 1) (show w.heap.size + 1 < ((w.alloc (Obj.cells #[.slice (some pa) c.pods.length pc, .slice (some qa) c.pols.length qc] 28)).alloc (Obj.cells #[.slice none 0 0, .slice none 0 0] 28)).heap.size by simp)])]
    exact fz2 _ _ _ _ o)
  have HF2 := hid (show ∀ o, V.frozen? ⟨w.heap.size + 1 + 1, o, none⟩ = false from fun o => by
    rw [← hV]
    have := fz1 ((w.alloc (Obj.cells #[.slice (some pa) c.pods.length pc, .slice (some qa) c.pols.length qc] 28)).alloc (Obj.cells #[.slice none 0 0, .slice none 0 0] 28)) #[.slice (some ⟨w.heap.size + 1 + 1 + 1, 0, none⟩) c.pods.length (c.pods.length + 1), .slice none 0 0] 28 (Obj.cells (c.pods.flatMap oCells ++ ([.int .i64 (-7), .int .i64 0, .int .i64 0, .int .i64 0] : List Value)).toArray 54) o
    simp only [World.size_alloc] at this
    exact this)
  have HBV := hid (show Below w.heap.size w V from by rw [← hV]; exact bel)
  have HPV := hid (show lnPods w.heap.size (w.heap.size + 1 + 1 + 1 + 1) V (some pa) (.slice (some ⟨w.heap.size + 1 + 1 + 1, 0, none⟩) c.pods.length (c.pods.length + 1)) c.pods from Or.inr ⟨pa, w.heap.size + 1 + 1 + 1, rfl, by omega, by omega, rfl, by rw [← hV]; exact alloc_at _ _ _ (by simp)⟩)
  clear hV
  go_loopw [6] (fun i wr => ∃ (k : Nat) (f : Nat → Nat), k ≤ c.pols.length ∧ i = .int .i64 k ∧ LnL 6 c.pols.length (eLnPol w (some qa) c.pols (w.heap.size + 1 + 1 + 1 + 1)) wr (w.heap.size + 1 + 1 + 1 + 1) f k ∧ f k = wr.heap.size ∧ Below V.heap.size V wr) (fun i _ => c.pols.length - (intOf i).toNat)
  case atStart =>
    refine ⟨0, fun _ => w.heap.size + 1 + 1 + 1 + 1 + 1, Nat.zero_le _, rfl, ⟨?_, Nat.lt_succ_self _, fun i hi => absurd hi (Nat.not_lt_zero _), fun i hi => absurd hi (Nat.not_lt_zero _)⟩, by rw [World.size_alloc, hsV], Ext.alloc (Below.refl _ _) _⟩
    have := HOY.out V
    rwa [hsV] at this
  case round =>
    obtain ⟨k, f, hk, rfl, hL, hf, hbv⟩ := hrel
    have HL := hid hL
    have HFK := hid hf
    have hgs := hL.lt hf
    have z1 := cell_to v1 hbv
    have HBV2 := hid hbv
    have hbw : Below w.heap.size w wr := Ext.trans HBV.out hbv
    by_cases hlt : k < c.pols.length
    · obtain ⟨x, hxk⟩ : ∃ x, c.pols[k]? = some x := ⟨c.pols[k], by simp [hlt]⟩
      have HX := hid hxk
      clear hxk
      obtain ⟨b, off, he, hb, c0, c1, c2, c3, ⟨oa, oc, c4, ho⟩, ia, ic, c5, hi⟩ := HQ.out.2 k x HX.out
      cases he
      have HO := hid ho
      have HI := hid hi
      have HC4 := hid c4
      have HC5 := hid c5
      have d0 := cell_to c0 hbw
      have d1 := cell_to c1 hbw
      have d2 := cell_to c2 hbw
      have d3 := cell_to c3 hbw
      have d4 := cell_to c4 hbw
      have d5 := cell_to c5 hbw
      clear hL hf hbv c0 c1 c2 c3 c4 c5 ho hi
      go_wp2_with fail
      refine (lentPolicy_any x oa ia oc ic wr (rdRules.to HO.out hbw) (rdRules.to HI.out hbw)).mono ?_
      rintro e w1 ⟨m, sa, sn, sc, ta, tn, tc, rfl, hm1, hm2, hl1, hl2, hb1⟩
      have HN1 := hid (lnRules.base HO.out hbw hl1)
      have HN2 := hid (lnRules.base HI.out hbw hl2)
      have HB1 := hid hb1
      have HO1 := hid (own_heap HL.out.1 (hb1.block _ hgs))
      have hfr := HO1.out.2
      obtain ⟨y0, e0⟩ := HO1.out.1 (k * 6) (by omega)
      obtain ⟨y1, e1⟩ := HO1.out.1 (k * 6 + 1) (by omega)
      obtain ⟨y2, e2⟩ := HO1.out.1 (k * 6 + 2) (by omega)
      obtain ⟨y3, e3⟩ := HO1.out.1 (k * 6 + 3) (by omega)
      obtain ⟨y4, e4⟩ := HO1.out.1 (k * 6 + 4) (by omega)
      obtain ⟨y5, e5⟩ := HO1.out.1 (k * 6 + 5) (by omega)
      have HST := hid (LnL.put (vs := [.int .i64 x.space, .int .i64 x.need, .int .i64 x.ban, .int .i64 x.ways, .slice sa sn sc, .slice ta tn tc]) (eLnPol.stab _ _ _ _) HL.out HFK.out HB1.out rfl hlt (fun ho => by
        intro y hy
        rw [HX.out] at hy
        cases hy
        have hsz : (sets w1 (w.heap.size + 1 + 1 + 1 + 1) (k * 6) [.int .i64 x.space, .int .i64 x.need, .int .i64 x.ban, .int .i64 x.ways, .slice sa sn sc, .slice ta tn tc]).heap.size = w1.heap.size := sets_size _ _ _ _
        refine ⟨m, _, _, hm1, by rw [hsz]; exact hm2, sets_at _ _ _ _ _ 0 _ rfl (by simp; omega) ho, sets_at _ _ _ _ _ 1 _ rfl (by simp; omega) ho, sets_at _ _ _ _ _ 2 _ rfl (by simp; omega) ho, sets_at _ _ _ _ _ 3 _ rfl (by simp; omega) ho, sets_at _ _ _ _ _ 4 _ rfl (by simp; omega) ho, sets_at _ _ _ _ _ 5 _ rfl (by simp; omega) ho, ?_, ?_⟩
        · rw [subA_eq (n := x.outs.length) (c := oc) (by have := HC4.out; rwa [Nat.add_assoc] at this)]
          exact HN1.out.heap fun j h1 h2 => sets_block _ _ _ _ _ (by omega)
        · rw [subA_eq (n := x.ins.length) (c := ic) (by have := HC5.out; rwa [Nat.add_assoc] at this), hsz]
          exact HN2.out.heap fun j h1 h2 => sets_block _ _ _ _ _ (by omega)))
      have HBF := hid (show Below V.heap.size V (sets w1 (w.heap.size + 1 + 1 + 1 + 1) (k * 6) [.int .i64 x.space, .int .i64 x.need, .int .i64 x.ban, .int .i64 x.ways, .slice sa sn sc, .slice ta tn tc]) from (Ext.trans HBV2.out hb1).trans ((sets_only _ _ _ _).below (by omega) (by have := hb1.size; omega)))
      clear hl1 hl2 hb1
      go_wp2
      obtain ⟨f', hf1, hf2⟩ := HST.out
      exact ⟨⟨k + 1, f', by omega, by go_num, hf1, hf2, HBF.out⟩, by simp [intOf]; omega⟩
    · have e : k = c.pols.length := by omega
      subst e
      have hfr := hL.1.2
      obtain ⟨y0, e0⟩ := hL.1.1 (c.pols.length * 6) (by omega)
      obtain ⟨y1, e1⟩ := hL.1.1 (c.pols.length * 6 + 1) (by omega)
      obtain ⟨y2, e2⟩ := hL.1.1 (c.pols.length * 6 + 2) (by omega)
      obtain ⟨y3, e3⟩ := hL.1.1 (c.pols.length * 6 + 3) (by omega)
      obtain ⟨y4, e4⟩ := hL.1.1 (c.pols.length * 6 + 4) (by omega)
      obtain ⟨y5, e5⟩ := hL.1.1 (c.pols.length * 6 + 5) (by omega)
      have g0 := cell_to h0 hbv
      have g1 := cell_to h1 hbv
      have s0 := cell_to r0 hbv
      have s1 := cell_to r1 hbv
      have fr1 : ∀ o, wr.frozen? ⟨w.heap.size + 1, o, none⟩ = false := fun o => by rw [hbv.frozen (p := ⟨w.heap.size + 1, o, none⟩) (by show w.heap.size + 1 < _; omega)]; exact HF1.out o
      have fr2 : ∀ o, wr.frozen? ⟨w.heap.size + 1 + 1, o, none⟩ = false := fun o => by rw [hbv.frozen (p := ⟨w.heap.size + 1 + 1, o, none⟩) (by show w.heap.size + 1 + 1 < _; omega)]; exact HF2.out o
      clear hL hf hbv
      go_wp2
      generalize hT : ((((((wr.setCell ⟨w.heap.size + 1 + 1 + 1 + 1, c.pols.length * 6, none⟩ (.int .i64 (-7))).setCell ⟨w.heap.size + 1 + 1 + 1 + 1, c.pols.length * 6 + 1, none⟩ (.int .i64 0)).setCell ⟨w.heap.size + 1 + 1 + 1 + 1, c.pols.length * 6 + 2, none⟩ (.int .i64 0)).setCell ⟨w.heap.size + 1 + 1 + 1 + 1, c.pols.length * 6 + 3, none⟩ (.int .i64 0)).setCell ⟨w.heap.size + 1 + 1 + 1 + 1, c.pols.length * 6 + 4, none⟩ (.slice none 0 0)).setCell ⟨w.heap.size + 1 + 1 + 1 + 1, c.pols.length * 6 + 5, none⟩ (.slice none 0 0)) = T
      have hT2 : T = sets wr (w.heap.size + 1 + 1 + 1 + 1) (c.pols.length * 6) [.int .i64 (-7), .int .i64 0, .int .i64 0, .int .i64 0, .slice none 0 0, .slice none 0 0] := hT.symm
      have LT := LnL.tail (eLnPol.stab w (some qa) c.pols (w.heap.size + 1 + 1 + 1 + 1)) (LnL.tail (eLnPol.stab w (some qa) c.pols (w.heap.size + 1 + 1 + 1 + 1)) (LnL.tail (eLnPol.stab w (some qa) c.pols (w.heap.size + 1 + 1 + 1 + 1)) (LnL.tail (eLnPol.stab w (some qa) c.pols (w.heap.size + 1 + 1 + 1 + 1)) (LnL.tail (eLnPol.stab w (some qa) c.pols (w.heap.size + 1 + 1 + 1 + 1)) (LnL.tail (eLnPol.stab w (some qa) c.pols (w.heap.size + 1 + 1 + 1 + 1)) HL.out (c.pols.length * 6) (by omega) (.int .i64 (-7))) (c.pols.length * 6 + 1) (by omega) (.int .i64 0)) (c.pols.length * 6 + 2) (by omega) (.int .i64 0)) (c.pols.length * 6 + 3) (by omega) (.int .i64 0)) (c.pols.length * 6 + 4) (by omega) (.slice none 0 0)) (c.pols.length * 6 + 5) (by omega) (.slice none 0 0)
      rw [hT] at LT
      clear hT
      have tsz : T.heap.size = wr.heap.size := by rw [hT2, sets_size]
      have tG : T.cell? ⟨w.heap.size + 1 + 1 + 1 + 1, c.pols.length * 6, none⟩ = some (.int .i64 (-7)) := by rw [hT2]; exact sets_at _ _ _ _ _ 0 _ rfl (by simp; omega) HL.out.1
      have tb : ∀ j, j ≠ w.heap.size + 1 + 1 + 1 + 1 → T.heap[j]? = wr.heap[j]? := fun j hj => by rw [hT2]; exact sets_block _ _ _ _ _ hj
      have tO : Only (w.heap.size + 1 + 1 + 1 + 1) (w.heap.size + 1 + 1 + 1 + 1 + 1) wr T := by rw [hT2]; exact sets_only _ _ _ _
      clear hT2
      have t0 : T.cell? ⟨w.heap.size + 1 + 1, 0, none⟩ = some (.slice (some ⟨w.heap.size + 1 + 1 + 1, 0, none⟩) c.pods.length (c.pods.length + 1)) := by rw [cell_heap (tb _ (by omega))]; exact g0
      have t1 : T.cell? ⟨w.heap.size + 1 + 1, 1, none⟩ = some (.slice none 0 0) := by rw [cell_heap (tb _ (by omega))]; exact g1
      have u0 : T.cell? ⟨w.heap.size + 1, 0, none⟩ = some (.slice none 0 0) := by rw [cell_heap (tb _ (by omega))]; exact s0
      have u1 : T.cell? ⟨w.heap.size + 1, 1, none⟩ = some (.slice none 0 0) := by rw [cell_heap (tb _ (by omega))]; exact s1
      generalize hU : ((T.setCell ⟨w.heap.size + 1 + 1, 1, none⟩ (.slice (some ⟨w.heap.size + 1 + 1 + 1 + 1, 0, none⟩) c.pols.length (c.pols.length + 1))).setCell ⟨w.heap.size + 1, 0, none⟩ (.slice (some ⟨w.heap.size + 1 + 1 + 1, 0, none⟩) c.pods.length (c.pods.length + 1))).setCell ⟨w.heap.size + 1, 1, none⟩ (.slice (some ⟨w.heap.size + 1 + 1 + 1 + 1, 0, none⟩) c.pols.length (c.pols.length + 1)) = U
      have ub : ∀ j, j ≠ w.heap.size + 1 → j ≠ w.heap.size + 1 + 1 → U.heap[j]? = T.heap[j]? := fun j a1 a2 => by rw [← hU, Below.heap_setCell _ _ _ _ a1, Below.heap_setCell _ _ _ _ a1, Below.heap_setCell _ _ _ _ a2]
      have usz : U.heap.size = wr.heap.size := by rw [← hU]; simp only [World.setCell, Array.size_modify]; exact tsz
      have uO : Only (w.heap.size + 1) (w.heap.size + 1 + 1 + 1) T U := by rw [← hU]; exact (((Only.refl _ _ _).setCell (by show _ ≤ w.heap.size + 1 + 1; omega) (by show w.heap.size + 1 + 1 < _; omega) _).setCell (by show _ ≤ w.heap.size + 1; omega) (by show w.heap.size + 1 < _; omega) _).setCell (by show _ ≤ w.heap.size + 1; omega) (by show w.heap.size + 1 < _; omega) _
      have x0 : U.cell? ⟨w.heap.size + 1, 0, none⟩ = some (.slice (some ⟨w.heap.size + 1 + 1 + 1, 0, none⟩) c.pods.length (c.pods.length + 1)) := by
        rw [← hU, World.cell?_setCell_other _ _ _ _ (fun h => by simp at h)]
        exact World.cell?_setCell_same _ _ _ (by rw [World.cell?_setCell_other _ _ _ _ (fun h => by simp at h)]; exact u0)
      have x1 : U.cell? ⟨w.heap.size + 1, 1, none⟩ = some (.slice (some ⟨w.heap.size + 1 + 1 + 1 + 1, 0, none⟩) c.pols.length (c.pols.length + 1)) := by
        rw [← hU]
        exact World.cell?_setCell_same _ _ _ (by rw [World.cell?_setCell_other _ _ _ _ (fun h => by simp at h), World.cell?_setCell_other _ _ _ _ (fun h => by simp at h)]; exact u1)
      clear hU
      have hBU : Below w.heap.size w U := (hbw.trans (tO.below (by omega) (by omega))).trans (uO.below (by omega) (by omega))
      refine bodyPost_ret (v := .agg #[.slice (some ⟨w.heap.size + 1 + 1 + 1, 0, none⟩) c.pods.length (c.pods.length + 1), .slice (some ⟨w.heap.size + 1 + 1 + 1 + 1, 0, none⟩) c.pols.length (c.pols.length + 1)]) (by simp [results, Tryz.results73, go_sem, x0, x1]) rfl ⟨w.heap.size + 1 + 1 + 1 + 1, _, _, _, _, _, _, rfl, by omega, by omega, ?_, Or.inr ⟨qa, w.heap.size + 1 + 1 + 1 + 1, f, rfl, Nat.le_refl _, by omega, rfl, LT.to (eLnPol.stab _ _ _ _) (ub _ (by omega) (by omega)) (fun j a1 a2 => ub j (by omega) (by omega)), ?_, ?_⟩, hBU⟩
      · exact lnPods_to HPV.out (fun j a1 a2 a3 => by rw [ub j (by omega) (by omega), tb j (by omega), HBV2.out.block j (by omega)]) (Or.inr ⟨_, _, rfl⟩)
      · rw [HFK.out, usz]; exact Nat.le_refl _
      · rw [cell_heap (ub _ (by omega) (by omega))]; exact tG
theorem Only.cell {lo hi : Nat} {a w : World} (h : Only lo hi a w) {g o : Nat} {v : Value} (hv : a.cell? ⟨g, o, none⟩ = some v) (hn : ¬ (lo ≤ g ∧ g < hi)) : w.cell? ⟨g, o, none⟩ = some v := by
  rw [cell_heap (h.heap (cell_lt hv) hn)]; exact hv
theorem Only.drew {lo hi : Nat} {a w : World} (h : Only lo hi a w) : Only lo hi a w.drew := h
theorem Only.ext {lo hi : Nat} {a b c : World} (h : Only lo hi a b) (k : Below b.heap.size b c) : Only lo hi a c := h.trans (Only.of_below k)
set_option maxRecDepth 100000 in
set_option maxHeartbeats 8000000 in
theorem backPeers_some (l : List DPeer) (a : Addr) (cap B lo hi g : Nat) (f : Nat → Nat) (w : World) (hr : rdPeers B w (some a) l) (hB : B ≤ lo) (hlo : lo ≤ g) (hg : g < hi) (hs : hi ≤ w.heap.size)
    (hL : LnL 7 l.length (eLnPeer w (some a) l g) w g f l.length) (hf : f l.length ≤ hi) (hz : w.cell? ⟨g, l.length * 7, none⟩ = some (.int .i64 (-7))) :
    Calls Tryz.prog 147 #[.slice (some ⟨g, 0, none⟩) l.length (l.length + 1), .slice (some a) l.length cap] w fun e w' => e = .returned (.bool true) ∧ Only lo hi w w' := by
  have HR := hid hr
  have HL := hid hL
  have hlen := hr.1
  have HM := hid (mono_le hL.2.2.1)
  have hg0 := hL.2.1
  clear hr hL
  have hq : ∀ w, (binOp .eql 61 (.slice (some a) l.length cap) (.slice none 0 0)).run Tryz.prog w = .ok (.bool false) w := fun w => Lib.run_eql_slice_nil w 61 69 _ _ _ _ _ und_peer
  have hne : ((l.length : Int) != (l.length : Int)) = false := by simp
  go_enter Tryz.func147, Tryz.ntmps147
  go_wp2
  go_loopw [6, 7] (fun ok i wr => ∃ k : Nat, k ≤ l.length ∧ i = .int .i64 k ∧ ok = .bool true ∧ Only (f 0) (f k) w wr) (fun _ i _ => l.length - (intOf i).toNat)
  case atStart => exact ⟨0, Nat.zero_le _, rfl, rfl, Only.refl _ _ _⟩
  case round =>
    obtain ⟨k, hk, rfl, rfl, hon⟩ := hrel
    have HN := hid hon
    have hfk := HM.out k l.length hk (Nat.le_refl _)
    have hf0 := HM.out 0 k (Nat.zero_le _) hk
    by_cases hlt : k < l.length
    · obtain ⟨x, hxk⟩ : ∃ x, l[k]? = some x := ⟨l[k], by simp [hlt]⟩
      have HX := hid hxk
      have hfk1 := HM.out (k + 1) l.length hlt (Nat.le_refl _)
      obtain ⟨e0, e1, e2, e3, e4, e5, s, e6, hln⟩ := HL.out.2.2.2 k hlt x hxk
      obtain ⟨va, vn, vc, hve⟩ := hln.sl
      subst hve
      clear hxk
      obtain ⟨b, off, he, hb, c0, c1, c2, c3, c4, c5, ea, ec, c6, hre⟩ := HR.out.2 k x HX.out
      cases he
      rw [subA_eq (n := x.exc.length) (c := ec) (by rwa [Nat.add_assoc] at c6)] at hln
      have HE := hid hre
      have HLN := hid hln
      have D0 := hid (hon.cell e0 (by omega))
      have D1 := hid (hon.cell e1 (by omega))
      have D2 := hid (hon.cell e2 (by omega))
      have D3 := hid (hon.cell e3 (by omega))
      have D4 := hid (hon.cell e4 (by omega))
      have D5 := hid (hon.cell e5 (by omega))
      have d6 := hon.cell e6 (by omega)
      have C0 := hid (hon.cell c0 (by omega))
      have C1 := hid (hon.cell c1 (by omega))
      have C2 := hid (hon.cell c2 (by omega))
      have C3 := hid (hon.cell c3 (by omega))
      have C4 := hid (hon.cell c4 (by omega))
      have C5 := hid (hon.cell c5 (by omega))
      have g6 := hon.cell c6 (by omega)
      clear e0 e1 e2 e3 e4 e5 e6 c0 c1 c2 c3 c4 c5 c6 hre hln hon hz
      have i0 : (0 : Int) ≤ (k : Int) := by omega
      have i1 : (k : Int) < (l.length : Int) := by omega
      have i2 : (k : Int) < (l.length : Int) + 1 := by omega
      have i3 : (k : Int) < ((l.length + 1 : Nat) : Int) := by omega
      have i4 : k < l.length + 1 := by omega
      go_wp2
      go_region_held3 (fun w' => w'.cell? ⟨g, k * 7 + 6, none⟩ = some (.slice va vn vc) ∧ w'.cell? ⟨b, off + k * 7 + 6, none⟩ = some (.slice ea x.exc.length ec)) (go_keep) (first
        | (go_at_call 170; refine (backBlks_any x.exc ea (.slice va vn vc) ec B (f k) (f (k + 1)) _ (rdBlks.ext (HN.out.drew.below (B := B) (by omega) (by omega)) (Nat.le_refl _) HE.out) (by omega) (HLN.out.heap fun j h1 h2 => HN.out.heap (by omega) (by omega))).mono ?_; rintro e w1 ⟨rfl, hon1⟩; have d6' := hon1.cell (g := g) (o := k * 7 + 6) (v := .slice va vn vc) (by simp [d6]) (by omega); have g6' := hon1.cell (g := b) (o := off + k * 7 + 6) (v := .slice ea x.exc.length ec) (by simp [g6]) (by omega)))
      have E0 := hon1.cell (by exact D0.out) (by omega)
      have E1 := hon1.cell (by exact D1.out) (by omega)
      have E2 := hon1.cell (by exact D2.out) (by omega)
      have E3 := hon1.cell (by exact D3.out) (by omega)
      have E4 := hon1.cell (by exact D4.out) (by omega)
      have E5 := hon1.cell (by exact D5.out) (by omega)
      have G0 := hon1.cell (by exact C0.out) (by omega)
      have G1 := hon1.cell (by exact C1.out) (by omega)
      have G2 := hon1.cell (by exact C2.out) (by omega)
      have G3 := hon1.cell (by exact C3.out) (by omega)
      have G4 := hon1.cell (by exact C4.out) (by omega)
      have G5 := hon1.cell (by exact C5.out) (by omega)
      have HN1 := hid (show Only (f 0) (f (k + 1)) w w1 from (HN.out.drew.mono (Nat.le_refl _) (by have := HM.out k (k + 1) (by omega) (by omega); omega)).trans (hon1.mono hf0 (Nat.le_refl _)))
      clear hon1 d6' g6' d6 g6
      obtain ⟨wb, hwb⟩ : ∃ wb, wb = w1 := ⟨_, rfl⟩
      subst hwb
      go_wp2
      refine wp_region_grow (by kernel_rfl) (by kernel_rfl) ?_
      repeat (go_big_quiet_step (fail))
      refine wpQuiet_nil ?_
      intro w1 hb1
      obtain ⟨hc1, hf1⟩ := bcell hb1
      have hz1 := hb_lt hb1
      go_wp2
      exact ⟨⟨k + 1, by omega, by go_num, by simp, HN1.out.ext hb1⟩, by simp [intOf]; omega⟩
    · have HOW := hid (own_heap HL.out.1 (hon.heap (k := g) (by omega) (by omega)))
      have HON := hid (hon.mono (lo' := lo) (hi' := hi) (by omega) (by omega))
      clear hon hz
      go_wp2
      go_loopw [9] (fun i wr => ∃ k : Nat, k ≤ l.length + 1 ∧ i = .int .i64 k ∧ own wr g ((l.length + 1) * 7) ∧ Only lo hi w wr) (fun i _ => l.length + 1 - (intOf i).toNat)
      case atStart => exact ⟨0, Nat.zero_le _, rfl, HOW.out, HON.out⟩
      case round =>
        obtain ⟨k, hk, rfl, hown, hon⟩ := hrel
        have HON := hid hon
        have HOW := hid hown
        by_cases hlt2 : k < l.length + 1
        · have hfr := hown.2
          obtain ⟨v0, e0⟩ := hown.1 (k * 7) (by omega)
          obtain ⟨v1, e1⟩ := hown.1 (k * 7 + 1) (by omega)
          obtain ⟨v2, e2⟩ := hown.1 (k * 7 + 2) (by omega)
          obtain ⟨v3, e3⟩ := hown.1 (k * 7 + 3) (by omega)
          obtain ⟨v4, e4⟩ := hown.1 (k * 7 + 4) (by omega)
          obtain ⟨v5, e5⟩ := hown.1 (k * 7 + 5) (by omega)
          obtain ⟨v6, e6⟩ := hown.1 (k * 7 + 6) (by omega)
          clear hown hon
          go_wp2
          exact ⟨⟨k + 1, by omega, by go_num, sets_own _ _ (k * 7) _ [.int .i64 2, .int .i64 0, .int .i64 0, .int .i64 0, .int .i64 0, .int .i64 0, .slice none 0 0] HOW.out, HON.out.trans ((sets_only _ g (k * 7) [.int .i64 2, .int .i64 0, .int .i64 0, .int .i64 0, .int .i64 0, .int .i64 0, .slice none 0 0]).mono hlo (by omega))⟩, by simp [intOf]; omega⟩
        · clear hown hon
          go_wp2
          go_ret
          exact ⟨rfl, HON.out⟩
theorem backPeers_nil (hc cap : Nat) (w : World) :
    Calls Tryz.prog 147 #[.slice none 0 hc, .slice none 0 cap] w fun e w' => e = .returned (.bool true) ∧ w' = w := by
  have hq : ∀ c w, (binOp .eql 61 (.slice none 0 c) (.slice none 0 0)).run Tryz.prog w = .ok (.bool true) w := fun c w => Lib.run_eql_slice_nil w 61 69 _ _ _ _ _ und_peer
  go_enter Tryz.func147, Tryz.ntmps147
  go_wp2
  go_ret
  exact ⟨rfl, rfl⟩
theorem backPeers_any (l : List DPeer) (a : Option Addr) (v : Value) (cap B lo hi : Nat) (w : World) (hr : rdPeers B w a l) (hB : B ≤ lo) (hs : hi ≤ w.heap.size) (hl : lnPeers lo hi w w a v l) :
    Calls Tryz.prog 147 #[v, .slice a l.length cap] w fun e w' => e = .returned (.bool true) ∧ Only lo hi w w' := by
  rcases hl with ⟨rfl, rfl, rfl⟩ | ⟨a', g, f, rfl, h2, h3, rfl, h5, h6, h7⟩
  · refine (backPeers_nil 0 cap w).mono ?_
    rintro e w' ⟨rfl, rfl⟩
    exact ⟨rfl, Only.refl _ _ _⟩
  · exact backPeers_some l a' cap B lo hi g f w hr hB h2 h3 hs h5 h6 h7
end Go.Proofs.YtmkjlhplgcifiaaGreat
