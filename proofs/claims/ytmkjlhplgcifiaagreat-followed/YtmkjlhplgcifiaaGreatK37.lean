/-
  For every two raw clusters, every list of drops and every raw packet the law Followed returns true: tables whose pods and policies went and came say what the cluster says that was so from the start (P8). Conditions: none.
-/
import Derived.Test.YtmkjlhplgcifiaaGreatK35
import Derived.Test.YtmkjlhplgcifiaaGreatK36
namespace Go.Proofs.YtmkjlhplgcifiaaGreat
open Go.ChangeShapes Go.WideShapes Go.ChangeAt Go.RowKit
attribute [local simp] World.cell?_grow
attribute [local go_sem] World.cell?_grow
attribute [local simp] World.cell?_alloc_there
attribute [local go_sem] World.cell?_alloc_there
attribute [local go_sem] eqg_blk std_blk eqg_pod std_pod eqg_sel std_sel eqg_prt std_prt
attribute [local go_sem ↓] eql_blk eql_sel neq_sel eql_prt eql_pod
attribute [local go_sem ↓] met_in1 met_in2 met_re1 met_re2
attribute [local go_sem ↓] met_has1 met_has2
attribute [local go_sem ↓] met_bl1 met_bl2
attribute [local go_sem] eqg_row std_row
attribute [local go_sem ↓] neq_row
set_option linter.unusedVariables false
set_option linter.unusedSimpArgs false
theorem sint_reads : Tryz.prog.readableRec 73 = true := by kernel_rfl
theorem sint_row : 73 < Tryz.prog.types.size := of_decide_eq_true (by kernel_rfl)
theorem bytes_int : Tryz.prog.bytesOf 3 = 8 := by kernel_rfl
section
variable {H : Type} {enc : TypeId × Value → H} {w : World} {base : Nat} {spare : Nat → Bool} {held : Bool}
theorem open_int : OpenE enc w base spare held 3 1 (fun B w b o x => eInt B w b o x ∧ i64 x) := by
  intro b o fuel cs y hc h hw
  obtain ⟨n, rfl, _, hwf⟩ := DataW.trod_int Tryz.underlying3 h
  exact ⟨n, hc 0 (by omega), i64_wf hwf⟩
theorem open_ints {fuel : Nat} {cs : List Value} {x : DataW H × List MemPlace} (h : DataW.trod enc Tryz.prog w base spare held fuel 73 cs = some x) (hw : ∀ n ∈ x.1.weights Tryz.prog 73, n ≤ reachBytes) :
    ∃ a l c, cs = [.slice a l.length c] ∧ RdSl w.heap.size w 1 8 eInt a l ∧ ∀ x ∈ l, i64 x := by
  obtain ⟨a, l, c, h1, h2⟩ := open_list Tryz.underlying73 cells_int bytes_int (by decide) open_int h hw
  exact ⟨a, l, c, h1, rd_split h2⟩
end
set_option maxRecDepth 100000 in
set_option maxHeartbeats 4000000 in
theorem followed_lifted (os : Os) (started : os.Started) (H : Type) (enc : TypeId × Value → H) :
    ReturnsInHanded {} Tryz.checked os 10 .any (Rows.followedSpec.pre6 enc Tryz.prog Tryz.f10 Rows.followedRow.domain false) (Rows.followedSpec.post enc Tryz.prog Tryz.f10 false true false false) := by
  refine returnsInHanded_of_change_sized (C := Tryz.checked) row_own started (by kernel_rfl) Tryz.func10
    (ChangeSpec.witness6 (enc := enc) (C := Tryz.checked) false ⟨#[], #[.agg #[.slice .none 0 0, .slice .none 0 0], .slice .none 0 0, .agg #[.slice .none 0 0, .slice .none 0 0], .agg #[.int .i64 0, .int .i64 0, .int .i64 0, .int .i64 0]], []⟩ 8 (by kernel_rfl) (by kernel_rfl) (by kernel_rfl) (by kernel_rfl)) ?_
  intro W base args ds gs before hval0 hW hcnd hsz0 _
  have hsz : (DataW.weightsEach Tryz.prog (Tryz.f10.params.toList ++ Rows.followedSpec.plain.varTypes Tryz.prog) (ds ++ gs)).all (· ≤ reachBytes) = true := hsz0
  have hval : ∀ (j : Nat) t v, Tryz.f10.params[j]? = some t → args[j]? = some v → Value.okWide Tryz.prog W .any base t v := hval0
  have hW' := hW
  obtain ⟨p, q, hA0, hV, rfl, hfz, hnd⟩ := hW
  have hA : DataW.TrodAll enc Tryz.prog W 0 (fun _ => true) true Tryz.f10.params.toList args.toList ds p := hA0
  rw [Tryz.params10] at hA hval hsz
  obtain ⟨v0, v1, v2, v3, d0, d1, d2, d3, p0, p1, p2, p3, rfl, rfl, rfl, h0, h1, h2, h3⟩ := trodAll_four hA
  obtain ⟨rfl, rfl⟩ := trodVars_none hV
  clear hA0 hval0 hsz0
  simp only [List.append_nil] at hW'
  have hw0 : ∀ n ∈ d0.weights Tryz.prog 28, n ≤ reachBytes := fun n hn => by simpa using List.all_eq_true.1 hsz n (DataW.weights_mem_each (j := 0) (t := 28) (d := d0) rfl rfl n hn)
  have hw1 : ∀ n ∈ d1.weights Tryz.prog 73, n ≤ reachBytes := fun n hn => by simpa using List.all_eq_true.1 hsz n (DataW.weights_mem_each (j := 1) (t := 73) (d := d1) rfl rfl n hn)
  have hw2 : ∀ n ∈ d2.weights Tryz.prog 28, n ≤ reachBytes := fun n hn => by simpa using List.all_eq_true.1 hsz n (DataW.weights_mem_each (j := 2) (t := 28) (d := d2) rfl rfl n hn)
  have hw3 : ∀ n ∈ d3.weights Tryz.prog 30, n ≤ reachBytes := fun n hn => by simpa using List.all_eq_true.1 hsz n (DataW.weights_mem_each (j := 3) (t := 30) (d := d3) rfl rfl n hn)
  have t0 := h0
  have t1 := h1
  have t2 := h2
  have t3 := h3
  obtain ⟨cs0, rfl, hc0⟩ := okWide_struct Tryz.underlying28 (hval 0 28 v0 rfl rfl)
  obtain ⟨c0, c1, rfl⟩ := Go.Joins.array2 (hc0.trans cells_clu)
  obtain ⟨ia, il, ic, rfl⟩ := okWide_slice Tryz.underlying73 (hval 1 73 v1 rfl rfl)
  obtain ⟨cs2, rfl, hc2⟩ := okWide_struct Tryz.underlying28 (hval 2 28 v2 rfl rfl)
  obtain ⟨c2, c3, rfl⟩ := Go.Joins.array2 (hc2.trans cells_clu)
  obtain ⟨cs3, rfl, hc3⟩ := okWide_struct Tryz.underlying30 (hval 3 30 v3 rfl rfl)
  obtain ⟨x0, x1, x2, x3, rfl⟩ := Go.Joins.array4 (hc3.trans cells_pkt)
  obtain ⟨fu0, f0⟩ := h0
  obtain ⟨fu1, f1⟩ := h1
  obtain ⟨fu2, f2⟩ := h2
  obtain ⟨fu3, f3⟩ := h3
  obtain ⟨pa, pods, pc, qa, pols, qc, rfl, rfl, rp, rq, icl⟩ := open_clu f0 hw0
  obtain ⟨da, dl, dc, e1, rd, id1⟩ := open_ints (show DataW.trod enc Tryz.prog W 0 (fun _ => true) true fu1 73 [.slice ia il ic] = some (d1, p1) from f1) hw1
  obtain ⟨ma, mods, mc, na, mols, nc, rfl, rfl, mp, mq, icm⟩ := open_clu f2 hw2
  obtain ⟨k, rfl, rfl, rfl, rfl, ik⟩ := open_pkt f3 hw3
  simp only [List.cons.injEq, and_true] at e1
  injection e1 with g0 g1 g2
  subst g0 g1 g2
  refine (followed_any ⟨pods, pols⟩ ⟨mods, mols⟩ dl k pa qa ma na _ pc qc mc nc _ W rp rq mp mq rd icl icm id1 ik).mono fun e W' ⟨he, hg⟩ => ?_
  subst he
  have hlt : ∀ x ∈ p0 ++ p1 ++ p2 ++ p3, x.block < W.heap.size := fun x hx => hW'.lt x hx
  exact ⟨_, rfl, post_of_below hW' (fun _ _ _ => (trodAll_cons_mk (shut_bool Tryz.underlying4 _) trodAll_mk0))
    (fun sp hsp => by
      have b0 := WideElems.Trod_stays (W' := W') (sp' := sp) row_laid clu_reads clu_row t0 (fun x hx => hg.same (hlt x (by simp [hx]))) (fun x hx => hsp x (by simp [hx]))
      have b1 := WideElems.Trod_stays (W' := W') (sp' := sp) row_laid sint_reads sint_row t1 (fun x hx => hg.same (hlt x (by simp [hx]))) (fun x hx => hsp x (by simp [hx]))
      have b2 := WideElems.Trod_stays (W' := W') (sp' := sp) row_laid clu_reads clu_row t2 (fun x hx => hg.same (hlt x (by simp [hx]))) (fun x hx => hsp x (by simp [hx]))
      have b3 := WideElems.Trod_stays (W' := W') (sp' := sp) row_laid pkt_reads pkt_row t3 (fun x hx => hg.same (hlt x (by simp [hx]))) (fun x hx => hsp x (by simp [hx]))
      have b4 := trodAll_mk4 b0 b1 b2 b3
      simp only [← List.append_assoc] at b4
      exact b4) (fun _ => rfl) hg (ok_one (by kernel_rfl) rfl (okWide_bool_mk Tryz.underlying4 _))⟩
theorem followed_over : Rows.followedRow.holds Tryz.pinned (OpenSpec.ofChange Rows.followedSpec) :=
  OpenClaim.holds_of_wide 10 Tryz.f10 rfl rfl rfl rfl rfl rfl rfl ⟨rfl, rfl, rfl, rfl, rfl⟩ rfl rfl rfl rfl rfl (by kernel_rfl) Tryz.func10 (by kernel_rfl)
    (of_decide_eq_true (by kernel_rfl)) (by unfold Func.isWrapper; first | (rw [if_pos (by decide +kernel)]; kernel_rfl) | (rw [if_neg (by decide +kernel)]; exact ⟨rfl, rfl⟩))
    (fun os started H enc _ => followed_lifted os started H enc)
/-- The statement. -/
theorem followed_holds : Rows.FollowedSaid := followed_over
#print axioms followed_holds
end Go.Proofs.YtmkjlhplgcifiaaGreat
