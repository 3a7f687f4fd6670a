/-
  For all pods, every space, every peer and every packet the law Isolated returns true: under one policy with one rule for a block, to the pods of its space goes just what comes from that block, but for the excepts; everything else goes free (P4). Conditions: none.
-/
import Derived.Test.YtmkjlhplgcifiaaGreatQ31
namespace Go.Proofs.YtmkjlhplgcifiaaGreat
open Go.ChangeShapes Go.WideShapes Go.ChangeAt Go.RowKit
attribute [local simp] World.cell?_grow
attribute [local go_sem] World.cell?_grow
attribute [local simp] World.cell?_alloc_there
attribute [local go_sem] World.cell?_alloc_there
attribute [local go_sem] eqg_blk std_blk eqg_pod std_pod eqg_sel std_sel eqg_prt std_prt
attribute [local go_sem ↓] eql_blk eql_sel neq_sel eql_prt eql_pod
attribute [local go_sem ↓] met_in1 met_in2 met_re1 met_re2
attribute [local go_sem ↓] met_has1 met_has2
attribute [local go_sem ↓] met_bl1 met_bl2
attribute [local go_sem] eqg_row std_row
attribute [local go_sem ↓] neq_row
set_option linter.unusedVariables false
set_option linter.unusedSimpArgs false

set_option maxRecDepth 100000 in
set_option maxHeartbeats 4000000 in
theorem isolated_lifted (os : Os) (started : os.Started) (H : Type) (enc : TypeId × Value → H) :
    ReturnsInHanded {} Tryz.checked os 8 .any (Rows.isolatedSpec.pre6 enc Tryz.prog Tryz.f8 Rows.isolatedRow.domain false) (Rows.isolatedSpec.post enc Tryz.prog Tryz.f8 false true false false) := by
  refine returnsInHanded_of_change_sized (C := Tryz.checked) row_own started (by kernel_rfl) Tryz.func8
    (ChangeSpec.witness6 (enc := enc) (C := Tryz.checked) false ⟨#[], #[.slice .none 0 0, .int .i64 0, .agg #[.int .i64 0, .int .i64 0, .int .i64 0, .int .i64 0, .int .i64 0, .int .i64 0, .slice .none 0 0], .agg #[.int .i64 0, .int .i64 0, .int .i64 0, .int .i64 0]], []⟩ 8 (by kernel_rfl) (by kernel_rfl) (by kernel_rfl) (by kernel_rfl)) ?_
  intro W base args ds gs before hval0 hW hcnd hsz0 _
  have hsz : (DataW.weightsEach Tryz.prog (Tryz.f8.params.toList ++ Rows.isolatedSpec.plain.varTypes Tryz.prog) (ds ++ gs)).all (· ≤ reachBytes) = true := hsz0
  have hval : ∀ (j : Nat) t v, Tryz.f8.params[j]? = some t → args[j]? = some v → Value.okWide Tryz.prog W .any base t v := hval0
  have hW' := hW
  obtain ⟨p, q, hA0, hV, rfl, hfz, hnd⟩ := hW
  have hA : DataW.TrodAll enc Tryz.prog W 0 (fun _ => true) true Tryz.f8.params.toList args.toList ds p := hA0
  rw [Tryz.params8] at hA hval hsz
  obtain ⟨v0, v1, v2, v3, d0, d1, d2, d3, p0, p1, p2, p3, rfl, rfl, rfl, h0, h1, h2, h3⟩ := trodAll_four hA
  obtain ⟨rfl, rfl⟩ := trodVars_none hV
  clear hA0 hval0 hsz0
  simp only [List.append_nil] at hW'
  have hw0 : ∀ n ∈ d0.weights Tryz.prog 25, n ≤ reachBytes := fun n hn => by simpa using List.all_eq_true.1 hsz n (DataW.weights_mem_each (j := 0) (t := 25) (d := d0) rfl rfl n hn)
  have hw2 : ∀ n ∈ d2.weights Tryz.prog 69, n ≤ reachBytes := fun n hn => by simpa using List.all_eq_true.1 hsz n (DataW.weights_mem_each (j := 2) (t := 69) (d := d2) rfl rfl n hn)
  have hw3 : ∀ n ∈ d3.weights Tryz.prog 30, n ≤ reachBytes := fun n hn => by simpa using List.all_eq_true.1 hsz n (DataW.weights_mem_each (j := 3) (t := 30) (d := d3) rfl rfl n hn)
  have t0 := h0
  have t1 := h1
  have t2 := h2
  have t3 := h3
  obtain ⟨pa, pn, pc, rfl⟩ := okWide_slice Tryz.underlying25 (hval 0 25 v0 rfl rfl)
  obtain ⟨sp, rfl⟩ := okWide_int Tryz.underlying3 (hval 1 3 v1 rfl rfl)
  obtain ⟨cs2, rfl, hc2⟩ := okWide_struct Tryz.underlying69 (hval 2 69 v2 rfl rfl)
  obtain ⟨y0, y1, y2, y3, y4, y5, y6, rfl⟩ := array7 (hc2.trans cells_peer)
  obtain ⟨cs3, rfl, hc3⟩ := okWide_struct Tryz.underlying30 (hval 3 30 v3 rfl rfl)
  obtain ⟨x0, x1, x2, x3, rfl⟩ := Go.Joins.array4 (hc3.trans cells_pkt)
  obtain ⟨fu0, f0⟩ := h0
  obtain ⟨fu1, f1⟩ := h1
  obtain ⟨fu2, f2⟩ := h2
  obtain ⟨fu3, f3⟩ := h3
  obtain ⟨a0, pods, c0, e0, rp, ip⟩ := open_pods (show DataW.trod enc Tryz.prog W 0 (fun _ => true) true fu0 25 [.slice pa pn pc] = some (d0, p0) from f0) hw0
  simp only [List.cons.injEq, and_true] at e0
  obtain ⟨s1, e1, is⟩ := open_it (show DataW.trod enc Tryz.prog W 0 (fun _ => true) true fu1 3 [.int .i64 sp] = some (d1, p1) from f1)
  obtain ⟨pe, ea, ec, e2, re, ie⟩ := open_peer_val (show DataW.trod enc Tryz.prog W 0 (fun _ => true) true fu2 69 [y0, y1, y2, y3, y4, y5, y6] = some (d2, p2) from f2) hw2
  obtain ⟨k, rfl, rfl, rfl, rfl, ik⟩ := open_pkt f3 hw3
  simp only [List.cons.injEq, and_true] at e2
  obtain ⟨rfl, rfl, rfl, rfl, rfl, rfl, rfl⟩ := e2
  injection e0 with g0 g1 g2
  injection e1 with g3 g4
  subst g0 g1 g2 g4
  refine (isolated_any pods _ pe k _ ea _ ec W rp re ip is ie ik).mono fun e W' ⟨he, hg⟩ => ?_
  subst he
  have hlt : ∀ x ∈ p0 ++ p1 ++ p2 ++ p3, x.block < W.heap.size := fun x hx => hW'.lt x hx
  exact ⟨_, rfl, post_of_below hW' (fun _ _ _ => (trodAll_cons_mk (shut_bool Tryz.underlying4 _) trodAll_mk0))
    (fun sp hsp => by
      have b0 := WideElems.Trod_stays (W' := W') (sp' := sp) row_laid spod_reads spod_row t0 (fun x hx => hg.same (hlt x (by simp [hx]))) (fun x hx => hsp x (by simp [hx]))
      have b1 := WideElems.Trod_stays (W' := W') (sp' := sp) row_laid int_reads int_row t1 (fun x hx => hg.same (hlt x (by simp [hx]))) (fun x hx => hsp x (by simp [hx]))
      have b2 := WideElems.Trod_stays (W' := W') (sp' := sp) row_laid peer_reads peer_row t2 (fun x hx => hg.same (hlt x (by simp [hx]))) (fun x hx => hsp x (by simp [hx]))
      have b3 := WideElems.Trod_stays (W' := W') (sp' := sp) row_laid pkt_reads pkt_row t3 (fun x hx => hg.same (hlt x (by simp [hx]))) (fun x hx => hsp x (by simp [hx]))
      have b4 := trodAll_mk4 b0 b1 b2 b3
      simp only [← List.append_assoc] at b4
      exact b4) (fun _ => rfl) hg (ok_one (by kernel_rfl) rfl (okWide_bool_mk Tryz.underlying4 _))⟩

theorem isolated_over : Rows.isolatedRow.holds Tryz.pinned (OpenSpec.ofChange Rows.isolatedSpec) :=
  OpenClaim.holds_of_wide 8 Tryz.f8 rfl rfl rfl rfl rfl rfl rfl ⟨rfl, rfl, rfl, rfl, rfl⟩ rfl rfl rfl rfl rfl (by kernel_rfl) Tryz.func8 (by kernel_rfl)
    (of_decide_eq_true (by kernel_rfl)) (by unfold Func.isWrapper; first | (rw [if_pos (by decide +kernel)]; kernel_rfl) | (rw [if_neg (by decide +kernel)]; exact ⟨rfl, rfl⟩))
    (fun os started H enc _ => isolated_lifted os started H enc)

/-- The statement. -/
theorem isolated_holds : Rows.IsolatedSaid := isolated_over
#print axioms isolated_holds
end Go.Proofs.YtmkjlhplgcifiaaGreat
