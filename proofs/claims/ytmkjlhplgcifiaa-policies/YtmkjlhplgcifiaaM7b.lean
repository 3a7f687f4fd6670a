/-
  A cluster lent.
-/
import Derived.Test.YtmkjlhplgcifiaaM7
namespace Go.Proofs.Ytmkjlhplgcifiaa
open Go.ChangeShapes Go.WideShapes Go.ChangeAt Go.RowKit
attribute [local simp] World.cell?_grow
attribute [local go_sem] World.cell?_grow
attribute [local simp] World.cell?_alloc_there
attribute [local go_sem] World.cell?_alloc_there
attribute [local go_sem] eqg_blk std_blk eqg_pod std_pod eqg_sel std_sel eqg_prt std_prt
attribute [local go_sem ↓] eql_blk eql_sel neq_sel eql_prt eql_pod
attribute [local go_sem ↓] met_in1 met_in2 met_re1 met_re2
set_option linter.unusedVariables false
set_option linter.unusedSimpArgs false


set_option maxRecDepth 100000 in
set_option maxHeartbeats 8000000 in
theorem lent_nq (c : DClu) (qa : Addr) (pc qc : Nat) (w : World) (hp0 : c.pods = []) (hq : rdPols w.heap.size w (some qa) c.pols) :
    Calls Try.prog 9 #[.agg #[.slice none 0 pc, .slice (some qa) c.pols.length qc]] w
      fun e w' => ∃ m sa sn sc ta tn tc, e = .returned (.agg #[.slice sa sn sc, .slice ta tn tc]) ∧ w.heap.size ≤ m ∧ m ≤ w'.heap.size ∧ lnPods w.heap.size m w' none (.slice sa sn sc) c.pods ∧ lnPols m w'.heap.size w w' (some qa) (.slice ta tn tc) c.pols ∧ Below w.heap.size w w' := by
  have hqp : ∀ w, (binOp .neq 23 (.slice none 0 pc) (.slice none 0 0)).run Try.prog w = .ok (.bool false) w := fun w => run_neq_slice_nil_any w 23 32 _ _ _ _ _ und_pod
  have hqq : ∀ w, (binOp .neq 24 (.slice (some qa) c.pols.length qc) (.slice none 0 0)).run Try.prog w = .ok (.bool true) w := fun w => run_neq_slice_nil_any w 24 37 _ _ _ _ _ und_pol
  have hlq := hq.1
  have HQ := hid hq
  clear hq
  obtain ⟨Y, hY, hmy⟩ := make_pol c.pols.length hlq
  go_enter Try.func9, Try.ntmps9
  go_wp2
  have HOY := hid (fun V : World => own_of (alloc_heap V (.cells Y 37)) hY)
  clear hY
  generalize hV : ((w.alloc (Obj.cells #[.slice none 0 pc, .slice (some qa) c.pols.length qc] 26)).alloc (Obj.cells #[.slice none 0 0, .slice none 0 0] 26)).alloc (Obj.cells #[.slice none 0 0, .slice none 0 0] 26) = V
  have hsV : V.heap.size = w.heap.size + 1 + 1 + 1 := by rw [← hV]; simp
  have v1 : V.cell? ⟨w.heap.size, 1, none⟩ = some (.slice (some qa) c.pols.length qc) := by rw [← hV]; simp [go_sem]
  have h0 : V.cell? ⟨w.heap.size + 1 + 1, 0, none⟩ = some (.slice none 0 0) := by rw [← hV]; simp [go_sem]
  have h1 : V.cell? ⟨w.heap.size + 1 + 1, 1, none⟩ = some (.slice none 0 0) := by rw [← hV]; simp [go_sem]
  have r0 : V.cell? ⟨w.heap.size + 1, 0, none⟩ = some (.slice none 0 0) := by rw [← hV]; simp [go_sem]
  have r1 : V.cell? ⟨w.heap.size + 1, 1, none⟩ = some (.slice none 0 0) := by rw [← hV]; simp [go_sem]
  have HF1 := hid (show ∀ o, V.frozen? ⟨w.heap.size + 1, o, none⟩ = false from fun o => by
    rw [← hV, World.frozen?_of_block (w := (w.alloc (Obj.cells #[.slice none 0 pc, .slice (some qa) c.pols.length qc] 26)).alloc (Obj.cells #[.slice none 0 0, .slice none 0 0] 26)) (a := ⟨w.heap.size + 1, o, none⟩) (by simp only [Below.heap_alloc _ _ (w.heap.size + 1) (show w.heap.size + 1 < ((w.alloc (Obj.cells #[.slice none 0 pc, .slice (some qa) c.pols.length qc] 26)).alloc (Obj.cells #[.slice none 0 0, .slice none 0 0] 26)).heap.size by simp)])]
    exact fz2 _ _ _ _ o)
  have HF2 := hid (show ∀ o, V.frozen? ⟨w.heap.size + 1 + 1, o, none⟩ = false from fun o => by
    rw [← hV]
    have := fz2 (w.alloc (Obj.cells #[.slice none 0 pc, .slice (some qa) c.pols.length qc] 26)) (Obj.cells #[.slice none 0 0, .slice none 0 0] 26) #[.slice none 0 0, .slice none 0 0] 26 o
    simp only [World.size_alloc] at this
    exact this)
  have HBV := hid (show Below w.heap.size w V from by rw [← hV]; exact (by repeat (first | exact Below.refl _ _ | assumption | apply Ext.alloc | apply Ext.drewN | apply Ext.drew | refine Ext.trans ?_ (by assumption))))
  have HPV := hid (show lnPods w.heap.size (w.heap.size + 1 + 1 + 1) V none (.slice none 0 0) c.pods from Or.inl ⟨rfl, rfl, hp0⟩)
  clear hV
  go_loopw [6] (fun i wr => ∃ (k : Nat) (f : Nat → Nat), k ≤ c.pols.length ∧ i = .int .i64 k ∧ LnL 6 c.pols.length (eLnPol w (some qa) c.pols (w.heap.size + 1 + 1 + 1)) wr (w.heap.size + 1 + 1 + 1) f k ∧ f k = wr.heap.size ∧ Below V.heap.size V wr) (fun i _ => c.pols.length - (intOf i).toNat)
  case atStart =>
    refine ⟨0, fun _ => w.heap.size + 1 + 1 + 1 + 1, Nat.zero_le _, rfl, ⟨?_, Nat.lt_succ_self _, fun i hi => absurd hi (Nat.not_lt_zero _), fun i hi => absurd hi (Nat.not_lt_zero _)⟩, by rw [World.size_alloc, hsV], Ext.alloc (Below.refl _ _) _⟩
    have := HOY.out V
    rwa [hsV] at this
  case round =>
    obtain ⟨k, f, hk, rfl, hL, hf, hbv⟩ := hrel
    have HL := hid hL
    have HFK := hid hf
    have hgs := hL.lt hf
    have z1 := cell_to v1 hbv
    have HBV2 := hid hbv
    have hbw : Below w.heap.size w wr := Ext.trans HBV.out hbv
    by_cases hlt : k < c.pols.length
    · obtain ⟨x, hxk⟩ : ∃ x, c.pols[k]? = some x := ⟨c.pols[k], by simp [hlt]⟩
      have HX := hid hxk
      clear hxk
      obtain ⟨b, off, he, hb, c0, c1, c2, c3, ⟨oa, oc, c4, ho⟩, ia, ic, c5, hi⟩ := HQ.out.2 k x HX.out
      cases he
      have HO := hid ho
      have HI := hid hi
      have HC4 := hid c4
      have HC5 := hid c5
      have d0 := cell_to c0 hbw
      have d1 := cell_to c1 hbw
      have d2 := cell_to c2 hbw
      have d3 := cell_to c3 hbw
      have d4 := cell_to c4 hbw
      have d5 := cell_to c5 hbw
      clear hL hf hbv c0 c1 c2 c3 c4 c5 ho hi
      go_wp2_with fail
      refine (lentPolicy_any x oa ia oc ic wr (rdRules.to HO.out hbw) (rdRules.to HI.out hbw)).mono ?_
      rintro e w1 ⟨m, sa, sn, sc, ta, tn, tc, rfl, hm1, hm2, hl1, hl2, hb1⟩
      have HN1 := hid (lnRules.base HO.out hbw hl1)
      have HN2 := hid (lnRules.base HI.out hbw hl2)
      have HB1 := hid hb1
      have HO1 := hid (own_heap HL.out.1 (hb1.block _ hgs))
      have hfr := HO1.out.2
      obtain ⟨y0, e0⟩ := HO1.out.1 (k * 6) (by omega)
      obtain ⟨y1, e1⟩ := HO1.out.1 (k * 6 + 1) (by omega)
      obtain ⟨y2, e2⟩ := HO1.out.1 (k * 6 + 2) (by omega)
      obtain ⟨y3, e3⟩ := HO1.out.1 (k * 6 + 3) (by omega)
      obtain ⟨y4, e4⟩ := HO1.out.1 (k * 6 + 4) (by omega)
      obtain ⟨y5, e5⟩ := HO1.out.1 (k * 6 + 5) (by omega)
      have HST := hid (LnL.put (vs := [.int .i64 x.space, .int .i64 x.need, .int .i64 x.ban, .int .i64 x.ways, .slice sa sn sc, .slice ta tn tc]) (eLnPol.stab _ _ _ _) HL.out HFK.out HB1.out rfl hlt (fun ho => by
        intro y hy
        rw [HX.out] at hy
        cases hy
        have hsz : (sets w1 (w.heap.size + 1 + 1 + 1) (k * 6) [.int .i64 x.space, .int .i64 x.need, .int .i64 x.ban, .int .i64 x.ways, .slice sa sn sc, .slice ta tn tc]).heap.size = w1.heap.size := sets_size _ _ _ _
        refine ⟨m, _, _, hm1, by rw [hsz]; exact hm2, sets_at _ _ _ _ _ 0 _ rfl (by simp; omega) ho, sets_at _ _ _ _ _ 1 _ rfl (by simp; omega) ho, sets_at _ _ _ _ _ 2 _ rfl (by simp; omega) ho, sets_at _ _ _ _ _ 3 _ rfl (by simp; omega) ho, sets_at _ _ _ _ _ 4 _ rfl (by simp; omega) ho, sets_at _ _ _ _ _ 5 _ rfl (by simp; omega) ho, ?_, ?_⟩
        · rw [subA_eq (n := x.outs.length) (c := oc) (by have := HC4.out; rwa [Nat.add_assoc] at this)]
          exact HN1.out.heap fun j h1 h2 => sets_block _ _ _ _ _ (by omega)
        · rw [subA_eq (n := x.ins.length) (c := ic) (by have := HC5.out; rwa [Nat.add_assoc] at this), hsz]
          exact HN2.out.heap fun j h1 h2 => sets_block _ _ _ _ _ (by omega)))
      have HBF := hid (show Below V.heap.size V (sets w1 (w.heap.size + 1 + 1 + 1) (k * 6) [.int .i64 x.space, .int .i64 x.need, .int .i64 x.ban, .int .i64 x.ways, .slice sa sn sc, .slice ta tn tc]) from (Ext.trans HBV2.out hb1).trans ((sets_only _ _ _ _).below (by omega) (by have := hb1.size; omega)))
      clear hl1 hl2 hb1
      go_wp2
      obtain ⟨f', hf1, hf2⟩ := HST.out
      exact ⟨⟨k + 1, f', by omega, by go_num, hf1, hf2, HBF.out⟩, by simp [intOf]; omega⟩
    · have e : k = c.pols.length := by omega
      subst e
      have hfr := hL.1.2
      obtain ⟨y0, e0⟩ := hL.1.1 (c.pols.length * 6) (by omega)
      obtain ⟨y1, e1⟩ := hL.1.1 (c.pols.length * 6 + 1) (by omega)
      obtain ⟨y2, e2⟩ := hL.1.1 (c.pols.length * 6 + 2) (by omega)
      obtain ⟨y3, e3⟩ := hL.1.1 (c.pols.length * 6 + 3) (by omega)
      obtain ⟨y4, e4⟩ := hL.1.1 (c.pols.length * 6 + 4) (by omega)
      obtain ⟨y5, e5⟩ := hL.1.1 (c.pols.length * 6 + 5) (by omega)
      have g0 := cell_to h0 hbv
      have g1 := cell_to h1 hbv
      have s0 := cell_to r0 hbv
      have s1 := cell_to r1 hbv
      have fr1 : ∀ o, wr.frozen? ⟨w.heap.size + 1, o, none⟩ = false := fun o => by rw [hbv.frozen (p := ⟨w.heap.size + 1, o, none⟩) (by show w.heap.size + 1 < _; omega)]; exact HF1.out o
      have fr2 : ∀ o, wr.frozen? ⟨w.heap.size + 1 + 1, o, none⟩ = false := fun o => by rw [hbv.frozen (p := ⟨w.heap.size + 1 + 1, o, none⟩) (by show w.heap.size + 1 + 1 < _; omega)]; exact HF2.out o
      clear hL hf hbv
      go_wp2
      generalize hT : ((((((wr.setCell ⟨w.heap.size + 1 + 1 + 1, c.pols.length * 6, none⟩ (.int .i64 (-7))).setCell ⟨w.heap.size + 1 + 1 + 1, c.pols.length * 6 + 1, none⟩ (.int .i64 0)).setCell ⟨w.heap.size + 1 + 1 + 1, c.pols.length * 6 + 2, none⟩ (.int .i64 0)).setCell ⟨w.heap.size + 1 + 1 + 1, c.pols.length * 6 + 3, none⟩ (.int .i64 0)).setCell ⟨w.heap.size + 1 + 1 + 1, c.pols.length * 6 + 4, none⟩ (.slice none 0 0)).setCell ⟨w.heap.size + 1 + 1 + 1, c.pols.length * 6 + 5, none⟩ (.slice none 0 0)) = T
      have hT2 : T = sets wr (w.heap.size + 1 + 1 + 1) (c.pols.length * 6) [.int .i64 (-7), .int .i64 0, .int .i64 0, .int .i64 0, .slice none 0 0, .slice none 0 0] := hT.symm
      have LT := LnL.tail (eLnPol.stab w (some qa) c.pols (w.heap.size + 1 + 1 + 1)) (LnL.tail (eLnPol.stab w (some qa) c.pols (w.heap.size + 1 + 1 + 1)) (LnL.tail (eLnPol.stab w (some qa) c.pols (w.heap.size + 1 + 1 + 1)) (LnL.tail (eLnPol.stab w (some qa) c.pols (w.heap.size + 1 + 1 + 1)) (LnL.tail (eLnPol.stab w (some qa) c.pols (w.heap.size + 1 + 1 + 1)) (LnL.tail (eLnPol.stab w (some qa) c.pols (w.heap.size + 1 + 1 + 1)) HL.out (c.pols.length * 6) (by omega) (.int .i64 (-7))) (c.pols.length * 6 + 1) (by omega) (.int .i64 0)) (c.pols.length * 6 + 2) (by omega) (.int .i64 0)) (c.pols.length * 6 + 3) (by omega) (.int .i64 0)) (c.pols.length * 6 + 4) (by omega) (.slice none 0 0)) (c.pols.length * 6 + 5) (by omega) (.slice none 0 0)
      rw [hT] at LT
      clear hT
      have tsz : T.heap.size = wr.heap.size := by rw [hT2, sets_size]
      have tG : T.cell? ⟨w.heap.size + 1 + 1 + 1, c.pols.length * 6, none⟩ = some (.int .i64 (-7)) := by rw [hT2]; exact sets_at _ _ _ _ _ 0 _ rfl (by simp; omega) HL.out.1
      have tb : ∀ j, j ≠ w.heap.size + 1 + 1 + 1 → T.heap[j]? = wr.heap[j]? := fun j hj => by rw [hT2]; exact sets_block _ _ _ _ _ hj
      have tO : Only (w.heap.size + 1 + 1 + 1) (w.heap.size + 1 + 1 + 1 + 1) wr T := by rw [hT2]; exact sets_only _ _ _ _
      clear hT2
      have t0 : T.cell? ⟨w.heap.size + 1 + 1, 0, none⟩ = some (.slice none 0 0) := by rw [cell_heap (tb _ (by omega))]; exact g0
      have t1 : T.cell? ⟨w.heap.size + 1 + 1, 1, none⟩ = some (.slice none 0 0) := by rw [cell_heap (tb _ (by omega))]; exact g1
      have u0 : T.cell? ⟨w.heap.size + 1, 0, none⟩ = some (.slice none 0 0) := by rw [cell_heap (tb _ (by omega))]; exact s0
      have u1 : T.cell? ⟨w.heap.size + 1, 1, none⟩ = some (.slice none 0 0) := by rw [cell_heap (tb _ (by omega))]; exact s1
      generalize hU : ((T.setCell ⟨w.heap.size + 1 + 1, 1, none⟩ (.slice (some ⟨w.heap.size + 1 + 1 + 1, 0, none⟩) c.pols.length (c.pols.length + 1))).setCell ⟨w.heap.size + 1, 0, none⟩ (.slice none 0 0)).setCell ⟨w.heap.size + 1, 1, none⟩ (.slice (some ⟨w.heap.size + 1 + 1 + 1, 0, none⟩) c.pols.length (c.pols.length + 1)) = U
      have ub : ∀ j, j ≠ w.heap.size + 1 → j ≠ w.heap.size + 1 + 1 → U.heap[j]? = T.heap[j]? := fun j a1 a2 => by rw [← hU, Below.heap_setCell _ _ _ _ a1, Below.heap_setCell _ _ _ _ a1, Below.heap_setCell _ _ _ _ a2]
      have usz : U.heap.size = wr.heap.size := by rw [← hU]; simp only [World.setCell, Array.size_modify]; exact tsz
      have uO : Only (w.heap.size + 1) (w.heap.size + 1 + 1 + 1) T U := by rw [← hU]; exact (((Only.refl _ _ _).setCell (by show _ ≤ w.heap.size + 1 + 1; omega) (by show w.heap.size + 1 + 1 < _; omega) _).setCell (by show _ ≤ w.heap.size + 1; omega) (by show w.heap.size + 1 < _; omega) _).setCell (by show _ ≤ w.heap.size + 1; omega) (by show w.heap.size + 1 < _; omega) _
      have x0 : U.cell? ⟨w.heap.size + 1, 0, none⟩ = some (.slice none 0 0) := by
        rw [← hU, World.cell?_setCell_other _ _ _ _ (fun h => by simp at h)]
        exact World.cell?_setCell_same _ _ _ (by rw [World.cell?_setCell_other _ _ _ _ (fun h => by simp at h)]; exact u0)
      have x1 : U.cell? ⟨w.heap.size + 1, 1, none⟩ = some (.slice (some ⟨w.heap.size + 1 + 1 + 1, 0, none⟩) c.pols.length (c.pols.length + 1)) := by
        rw [← hU]
        exact World.cell?_setCell_same _ _ _ (by rw [World.cell?_setCell_other _ _ _ _ (fun h => by simp at h), World.cell?_setCell_other _ _ _ _ (fun h => by simp at h)]; exact u1)
      clear hU
      have hBU : Below w.heap.size w U := (hbw.trans (tO.below (by omega) (by omega))).trans (uO.below (by omega) (by omega))
      refine bodyPost_ret (v := .agg #[.slice none 0 0, .slice (some ⟨w.heap.size + 1 + 1 + 1, 0, none⟩) c.pols.length (c.pols.length + 1)]) (by simp [results, Try.results9, go_sem, x0, x1]) rfl ⟨w.heap.size + 1 + 1 + 1, _, _, _, _, _, _, rfl, by omega, by omega, ?_, Or.inr ⟨qa, w.heap.size + 1 + 1 + 1, f, rfl, Nat.le_refl _, by omega, rfl, LT.to (eLnPol.stab _ _ _ _) (ub _ (by omega) (by omega)) (fun j a1 a2 => ub j (by omega) (by omega)), ?_, ?_⟩, hBU⟩
      · exact lnPods_to HPV.out (fun j a1 a2 a3 => by rw [ub j (by omega) (by omega), tb j (by omega), HBV2.out.block j (by omega)]) (Or.inl rfl)
      · rw [HFK.out, usz]; exact Nat.le_refl _
      · rw [cell_heap (ub _ (by omega) (by omega))]; exact tG
end Go.Proofs.Ytmkjlhplgcifiaa
