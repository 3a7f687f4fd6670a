/-
  For every cluster and every packet, whatever they are, the law Policies returns true: Right and Allowed answer as the document says (P3, P4), hold nothing and turn nothing of what was handed in. Conditions: none.
-/
import Derived.Test.YtmkjlhplgcifiaaP5
import Derived.Test.YtmkjlhplgcifiaaP4
import Derived.OpenShut
namespace Go.Proofs.Ytmkjlhplgcifiaa
open Go.ChangeShapes Go.WideShapes Go.ChangeAt Go.RowKit
attribute [local simp] World.cell?_grow
attribute [local go_sem] World.cell?_grow
attribute [local simp] World.cell?_alloc_there
attribute [local go_sem] World.cell?_alloc_there
attribute [local go_sem] eqg_blk std_blk eqg_pod std_pod eqg_sel std_sel eqg_prt std_prt
attribute [local go_sem ↓] eql_blk eql_sel neq_sel eql_prt eql_pod
attribute [local go_sem ↓] met_in1 met_in2 met_re1 met_re2
attribute [local go_sem ↓] met_has1 met_has2
set_option linter.unusedVariables false
set_option linter.unusedSimpArgs false

theorem pol_own : ownKnob Try.prog.godebug = none := by kernel_rfl
theorem pol_laid : laidOutB Try.prog = true := by kernel_rfl
theorem cells_spod : Try.prog.cellsOf 23 = 1 := by kernel_rfl
theorem cells_spol : Try.prog.cellsOf 24 = 1 := by kernel_rfl
theorem clu_reads : Try.prog.readableRec 26 = true := by kernel_rfl
theorem pkt_reads : Try.prog.readableRec 28 = true := by kernel_rfl
theorem clu_row : 26 < Try.prog.types.size := of_decide_eq_true (by kernel_rfl)
theorem pkt_row : 28 < Try.prog.types.size := of_decide_eq_true (by kernel_rfl)

section
variable {H : Type} {enc : TypeId × Value → H} {P : Program}
/-- nothing that was there has turned; new blocks may have come -/
theorem post_of_below {f : Func} {s : ChangeSpec} {apart fresh handsOn again : Bool} {W W' : World} {args : Array Value} {v : Value} {ds gs : List (DataW H)} {before : List MemPlace}
    (hW : DataW.Whole enc P f.params.toList s.vars apart W args.toList ds gs before)
    (hres : ∀ (b : Nat) (sp : Nat → Bool) (hd : Bool), DataW.TrodAll enc P W' b sp hd f.resultTypes.toList (v.resultList f.resultTypes.size) (s.fn H (ds ++ gs)).results [])
    (hargs : ∀ sp : Nat → Bool, (∀ p ∈ before, sp p.block = true) → DataW.TrodAll enc P W' 0 sp true f.params.toList args.toList (s.fn H (ds ++ gs)).args before)
    (hvars : ∀ sp : Nat → Bool, DataW.TrodVars enc P W' sp s.vars (s.fn H (ds ++ gs)).vars [])
    (hb : Below W.heap.size W W')
    (hok : ∀ (j : Nat) (t : TypeId) (r : Value), f.resultTypes[j]? = some t → (v.resultList f.resultTypes.size)[j]? = some r → Value.okWide P W' .any 0 t r) :
    s.post enc P f apart fresh handsOn again W args v W' := by
  have hold : ∀ p ∈ before, (fun b => decide (b < W.heap.size)) p.block = true := fun p hp => by simpa using hW.lt p hp
  have hW2 := hW
  refine ⟨ds, gs, before, [], before, [], hW, hres _ _ _, hargs _ hold, hvars _, World.keptBut_mono (fun p hp => ⟨hp, Or.inr (by simpa using hp)⟩) (hb.frame _), fun _ => ?_⟩
  obtain ⟨_, _, _, _, _, hz, hn⟩ := hW2
  refine ⟨hok, _, _, before, ⟨[] ++ before, [], trodAll_append (hargs _ (fun _ _ => rfl)) (hres _ _ _), hvars _, by simp, ?_, ?_⟩, ?_⟩
  · intro b off hp
    rw [hb.frozen (hW.lt _ hp)]
    exact hz b off hp
  · intro ha
    exact hn ha
  · intro p hp _
    simpa using hp
end

set_option maxRecDepth 100000 in
set_option maxHeartbeats 4000000 in
theorem pol_lifted (os : Os) (started : os.Started) (H : Type) (enc : TypeId × Value → H) :
    ReturnsInHanded {} Try.checked os 4 .any (Rows.policiesSpec.pre6 enc Try.prog Try.f4 Rows.policiesRow.domain false) (Rows.policiesSpec.post enc Try.prog Try.f4 false true false false) := by
  refine returnsInHanded_of_change_sized (C := Try.checked) pol_own started (by kernel_rfl) Try.func4
    (ChangeSpec.witness6 (enc := enc) (C := Try.checked) false ⟨#[], #[.agg #[.slice .none 0 0, .slice .none 0 0], .agg #[.int .i64 0, .int .i64 0, .int .i64 0, .int .i64 0]], []⟩ 8 (by kernel_rfl) (by kernel_rfl) (by kernel_rfl) (by kernel_rfl)) ?_
  intro W base args ds gs before hval0 hW hcnd hsz0 _
  have hsz : (DataW.weightsEach Try.prog (Try.f4.params.toList ++ Rows.policiesSpec.plain.varTypes Try.prog) (ds ++ gs)).all (· ≤ reachBytes) = true := hsz0
  have hval : ∀ (j : Nat) t v, Try.f4.params[j]? = some t → args[j]? = some v → Value.okWide Try.prog W .any base t v := hval0
  have hW' := hW
  obtain ⟨p, q, hA0, hV, rfl, hfz, hnd⟩ := hW
  have hA : DataW.TrodAll enc Try.prog W 0 (fun _ => true) true Try.f4.params.toList args.toList ds p := hA0
  rw [Try.params4] at hA hval hsz
  obtain ⟨v0, v1, d0, d1, p0, p1, rfl, rfl, rfl, h0, h1⟩ := trodAll_two hA
  obtain ⟨rfl, rfl⟩ := trodVars_none hV
  clear hA0 hval0 hsz0
  simp only [List.append_nil] at hW'
  have hw0 : ∀ n ∈ d0.weights Try.prog 26, n ≤ reachBytes := fun n hn => by simpa using List.all_eq_true.1 hsz n (DataW.weights_mem_each (j := 0) (t := 26) (d := d0) rfl rfl n hn)
  have hw1 : ∀ n ∈ d1.weights Try.prog 28, n ≤ reachBytes := fun n hn => by simpa using List.all_eq_true.1 hsz n (DataW.weights_mem_each (j := 1) (t := 28) (d := d1) rfl rfl n hn)
  have t0 := h0
  have t1 := h1
  obtain ⟨cs0, rfl, hc0⟩ := okWide_struct Try.underlying26 (hval 0 26 v0 rfl rfl)
  obtain ⟨c0, c1, rfl⟩ := Go.Joins.array2 (hc0.trans cells_clu)
  obtain ⟨cs1, rfl, hc1⟩ := okWide_struct Try.underlying28 (hval 1 28 v1 rfl rfl)
  obtain ⟨x0, x1, x2, x3, rfl⟩ := Go.Joins.array4 (hc1.trans cells_pkt)
  obtain ⟨fu0, f0⟩ := h0
  obtain ⟨fu1, f1⟩ := h1
  obtain ⟨_, n0, g0⟩ := open_st Try.underlying26 f0 hw0
  obtain ⟨_, n1, g1⟩ := open_st Try.underlying28 f1 hw1
  obtain ⟨z0, k0, b0⟩ := g0 0 _ rfl
  obtain ⟨z1, k1, b1⟩ := g0 1 _ rfl
  have k0' : DataW.trod enc Try.prog W 0 (fun _ => true) true n0 23 [c0] = some z0 := by have q : DataW.trod enc Try.prog W 0 (fun _ => true) true n0 23 (([c0, c1].drop 0).take (Try.prog.cellsOf 23)) = some z0 := k0; rw [cells_spod] at q; exact q
  have k1' : DataW.trod enc Try.prog W 0 (fun _ => true) true n0 24 [c1] = some z1 := by have q : DataW.trod enc Try.prog W 0 (fun _ => true) true n0 24 (([c0, c1].drop 1).take (Try.prog.cellsOf 24)) = some z1 := k1; rw [cells_spol] at q; exact q
  obtain ⟨pa, pods, pc, e0, rp⟩ := open_pods k0' b0
  obtain ⟨qa, pols, qc, e1, rq⟩ := open_pols k1' b1
  simp only [List.cons.injEq, and_true] at e0 e1
  subst e0
  subst e1
  obtain ⟨y0, j0, _⟩ := g1 0 _ rfl
  obtain ⟨y1, j1, _⟩ := g1 1 _ rfl
  obtain ⟨y2, j2, _⟩ := g1 2 _ rfl
  obtain ⟨y3, j3, _⟩ := g1 3 _ rfl
  have i0 : ∃ n, x0 = .int .i64 n := open_it (enc := enc) (w := W) (base := 0) (spare := fun _ => true) (held := true) (fuel := n1) (y := y0) (by have q : DataW.trod enc Try.prog W 0 (fun _ => true) true n1 3 (([x0, x1, x2, x3].drop 0).take (Try.prog.cellsOf 3)) = some y0 := j0; rw [cells_int] at q; exact q)
  have i1 : ∃ n, x1 = .int .i64 n := open_it (enc := enc) (w := W) (base := 0) (spare := fun _ => true) (held := true) (fuel := n1) (y := y1) (by have q : DataW.trod enc Try.prog W 0 (fun _ => true) true n1 3 (([x0, x1, x2, x3].drop 1).take (Try.prog.cellsOf 3)) = some y1 := j1; rw [cells_int] at q; exact q)
  have i2 : ∃ n, x2 = .int .i64 n := open_it (enc := enc) (w := W) (base := 0) (spare := fun _ => true) (held := true) (fuel := n1) (y := y2) (by have q : DataW.trod enc Try.prog W 0 (fun _ => true) true n1 3 (([x0, x1, x2, x3].drop 2).take (Try.prog.cellsOf 3)) = some y2 := j2; rw [cells_int] at q; exact q)
  have i3 : ∃ n, x3 = .int .i64 n := open_it (enc := enc) (w := W) (base := 0) (spare := fun _ => true) (held := true) (fuel := n1) (y := y3) (by have q : DataW.trod enc Try.prog W 0 (fun _ => true) true n1 3 (([x0, x1, x2, x3].drop 3).take (Try.prog.cellsOf 3)) = some y3 := j3; rw [cells_int] at q; exact q)
  obtain ⟨s0, rfl⟩ := i0
  obtain ⟨s1, rfl⟩ := i1
  obtain ⟨s2, rfl⟩ := i2
  obtain ⟨s3, rfl⟩ := i3
  refine (policies_any ⟨pods, pols⟩ ⟨s0, s1, s2, s3⟩ pa qa pc qc W rp rq).mono fun e W' ⟨he, hg⟩ => ?_
  subst he
  have hlt : ∀ x ∈ p0 ++ p1, x.block < W.heap.size := fun x hx => hW'.lt x hx
  exact ⟨_, rfl, post_of_below hW' (fun _ _ _ => (trodAll_cons_mk (shut_bool Try.underlying4 _) trodAll_mk0))
    (fun sp hsp => by
      have a0 := WideElems.Trod_stays (W' := W') (sp' := sp) pol_laid clu_reads clu_row t0 (fun x hx => hg.same (hlt x (List.mem_append_left _ hx))) (fun x hx => hsp x (List.mem_append_left _ hx))
      have a1 := WideElems.Trod_stays (W' := W') (sp' := sp) pol_laid pkt_reads pkt_row t1 (fun x hx => hg.same (hlt x (List.mem_append_right _ hx))) (fun x hx => hsp x (List.mem_append_right _ hx))
      have a2 := trodAll_cons_mk a0 (trodAll_cons_mk a1 trodAll_mk0)
      rw [List.append_nil] at a2
      exact a2) (fun _ => rfl) hg (ok_one (by kernel_rfl) rfl (okWide_bool_mk Try.underlying4 _))⟩

theorem pol_over : Rows.policiesRow.holds Try.pinned (OpenSpec.ofChange Rows.policiesSpec) :=
  OpenClaim.holds_of_wide 4 Try.f4 rfl rfl rfl rfl rfl rfl rfl ⟨rfl, rfl, rfl, rfl, rfl⟩ rfl rfl rfl rfl rfl (by kernel_rfl) Try.func4 (by kernel_rfl)
    (of_decide_eq_true (by kernel_rfl)) (by unfold Func.isWrapper; first | (rw [if_pos (by decide +kernel)]; kernel_rfl) | (rw [if_neg (by decide +kernel)]; exact ⟨rfl, rfl⟩))
    (fun os started H enc _ => pol_lifted os started H enc)

/-- The statement. -/
theorem policies_holds : Rows.PoliciesSaid := pol_over
#print axioms policies_holds
end Go.Proofs.Ytmkjlhplgcifiaa
