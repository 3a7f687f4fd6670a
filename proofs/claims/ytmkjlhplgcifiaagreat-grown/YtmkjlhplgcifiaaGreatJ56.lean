/-
  palisadekeep: Grown, walked: whatever there is.
  A peer and a rule that came in as values, opened.
  For every raw cluster, every place in it, every raw rule, every space and every raw packet the law Grown returns true: one more thing that lets in takes nothing away that was let through (P9). Conditions: none.
-/
import Derived.Test.YtmkjlhplgcifiaaGreatJ50
import Derived.Test.YtmkjlhplgcifiaaGreatJ54
import Derived.Test.YtmkjlhplgcifiaaGreatJ55
import Derived.Test.YtmkjlhplgcifiaaGreatJ51
import Derived.Test.YtmkjlhplgcifiaaGreatJ53
import Derived.Carry
namespace Go.Proofs.YtmkjlhplgcifiaaGreat
open Go.ChangeShapes Go.WideShapes Go.ChangeAt Go.RowKit
attribute [local simp] World.cell?_grow
attribute [local go_sem] World.cell?_grow
attribute [local simp] World.cell?_alloc_there
attribute [local go_sem] World.cell?_alloc_there
attribute [local go_sem] eqg_blk std_blk eqg_pod std_pod eqg_sel std_sel eqg_prt std_prt
attribute [local go_sem ↓] eql_blk eql_sel neq_sel eql_prt eql_pod
attribute [local go_sem ↓] met_in1 met_in2 met_re1 met_re2
attribute [local go_sem ↓] met_has1 met_has2
attribute [local go_sem ↓] met_bl1 met_bl2
attribute [local go_sem] eqg_row std_row
attribute [local go_sem ↓] neq_row
set_option linter.unusedVariables false
set_option linter.unusedSimpArgs false
theorem grown_any (c : DClu) (r : DRule) (which space : Int) (k : DPkt) (pa qa ra sa : Option Addr) (pc qc rc sc : Nat) (w : World) (hp : rdPods w.heap.size w pa c.pods) (hq : rdPols w.heap.size w qa c.pols) (hrp : rdPeers w.heap.size w ra r.peers) (hrq : rdPorts w.heap.size w sa r.ports) (hi : iClu c) (hir : iRule r) (hwh : i64 which) (hsp : i64 space) (hk : iPkt k) :
    Calls Tryz.prog 7 #[.agg #[.slice pa c.pods.length pc, .slice qa c.pols.length qc], .int .i64 which, .agg #[.slice ra r.peers.length rc, .slice sa r.ports.length sc], .int .i64 space, .agg #[.int .i64 k.src, .int .i64 k.dst, .int .i64 k.proto, .int .i64 k.port]] w fun e w' => e = .returned (.bool true) ∧ Below w.heap.size w w' := by
  by_cases h4 : (mkClu c).pols.length < 4
  · exact grown_pos c r which space k pa qa ra sa pc qc rc sc w hp hq hrp hrq hi hir hwh hsp hk h4
  · exact grown_neg c r which space k pa qa ra sa pc qc rc sc w hp hq hrp hrq hi hir hwh hsp hk h4
end Go.Proofs.YtmkjlhplgcifiaaGreat
namespace Go.Proofs.YtmkjlhplgcifiaaGreat
open Go.ChangeShapes Go.WideShapes Go.ChangeAt Go.RowKit
attribute [local simp] World.cell?_grow
attribute [local go_sem] World.cell?_grow
attribute [local simp] World.cell?_alloc_there
attribute [local go_sem] World.cell?_alloc_there
attribute [local go_sem] eqg_blk std_blk eqg_pod std_pod eqg_sel std_sel eqg_prt std_prt
attribute [local go_sem ↓] eql_blk eql_sel neq_sel eql_prt eql_pod
attribute [local go_sem ↓] met_in1 met_in2 met_re1 met_re2
attribute [local go_sem ↓] met_has1 met_has2
attribute [local go_sem ↓] met_bl1 met_bl2
set_option linter.unusedVariables false
set_option linter.unusedSimpArgs false
section
variable {H : Type} {enc : TypeId × Value → H} {w : World} {base : Nat} {spare : Nat → Bool} {held : Bool}
theorem open_rule_val {fuel : Nat} {cs : List Value} {y : DataW H × List MemPlace} (h : DataW.trod enc Tryz.prog w base spare held fuel 64 cs = some y) (hw : ∀ n ∈ y.1.weights Tryz.prog 64, n ≤ reachBytes) :
    ∃ (x : DRule) (a a' : Option Addr) (c c' : Nat), cs = [.slice a x.peers.length c, .slice a' x.ports.length c'] ∧ rdPeers w.heap.size w a x.peers ∧ rdPorts w.heap.size w a' x.ports ∧ iRule x := by
  obtain ⟨hl, n, hf⟩ := open_st Tryz.underlying64 h hw
  rw [cells_rule] at hl
  obtain ⟨v0, v1, rfl⟩ := list_2 hl
  obtain ⟨z0, h0, g0⟩ := hf 0 _ rfl
  obtain ⟨z1, h1, g1⟩ := hf 1 _ rfl
  have k0 : DataW.trod enc Tryz.prog w base spare held n 61 [v0] = some z0 := by have q : DataW.trod enc Tryz.prog w base spare held n 61 (([v0, v1].drop 0).take (Tryz.prog.cellsOf 61)) = some z0 := h0; rw [cells_speer] at q; exact q
  obtain ⟨a0, l0, c0, e0, r0, i0⟩ := open_peers k0 g0
  simp only [List.cons.injEq, and_true] at e0
  have k1 : DataW.trod enc Tryz.prog w base spare held n 62 [v1] = some z1 := by have q : DataW.trod enc Tryz.prog w base spare held n 62 (([v0, v1].drop 1).take (Tryz.prog.cellsOf 62)) = some z1 := h1; rw [cells_sprt] at q; exact q
  obtain ⟨a1, l1, c1, e1, r1, i1⟩ := open_prts k1 g1
  simp only [List.cons.injEq, and_true] at e1
  subst e0 e1
  exact ⟨⟨l0, l1⟩, a0, a1, c0, c1, rfl, r0, r1, i0, i1⟩
end
theorem int_reads : Tryz.prog.readableRec 3 = true := by kernel_rfl
theorem int_row : 3 < Tryz.prog.types.size := of_decide_eq_true (by kernel_rfl)
theorem rule_reads : Tryz.prog.readableRec 64 = true := by kernel_rfl
theorem rule_row : 64 < Tryz.prog.types.size := of_decide_eq_true (by kernel_rfl)
end Go.Proofs.YtmkjlhplgcifiaaGreat
namespace Go.Proofs.YtmkjlhplgcifiaaGreat
open Go.ChangeShapes Go.WideShapes Go.ChangeAt Go.RowKit
attribute [local simp] World.cell?_grow
attribute [local go_sem] World.cell?_grow
attribute [local simp] World.cell?_alloc_there
attribute [local go_sem] World.cell?_alloc_there
attribute [local go_sem] eqg_blk std_blk eqg_pod std_pod eqg_sel std_sel eqg_prt std_prt
attribute [local go_sem ↓] eql_blk eql_sel neq_sel eql_prt eql_pod
attribute [local go_sem ↓] met_in1 met_in2 met_re1 met_re2
attribute [local go_sem ↓] met_has1 met_has2
attribute [local go_sem ↓] met_bl1 met_bl2
attribute [local go_sem] eqg_row std_row
attribute [local go_sem ↓] neq_row
set_option linter.unusedVariables false
set_option linter.unusedSimpArgs false
section
variable {H : Type} {enc : TypeId × Value → H} {P : Program} {w : World} {base : Nat} {spare : Nat → Bool} {held : Bool}
theorem trodAll_five {t0 t1 t2 t3 t4 : TypeId} {args : Array Value} {ds : List (DataW H)} {ps : List MemPlace} (h : DataW.TrodAll enc P w base spare held [t0, t1, t2, t3, t4] args.toList ds ps) :
    ∃ v0 v1 v2 v3 v4 d0 d1 d2 d3 d4 p0 p1 p2 p3 p4, args = #[v0, v1, v2, v3, v4] ∧ ds = [d0, d1, d2, d3, d4] ∧ ps = p0 ++ p1 ++ p2 ++ p3 ++ p4 ∧ DataW.Trod enc P w base spare held t0 v0 d0 p0 ∧ DataW.Trod enc P w base spare held t1 v1 d1 p1 ∧ DataW.Trod enc P w base spare held t2 v2 d2 p2 ∧ DataW.Trod enc P w base spare held t3 v3 d3 p3 ∧ DataW.Trod enc P w base spare held t4 v4 d4 p4 := by
  obtain ⟨v0, vs0, d0, e0, p0, q0, hargs, rfl, rfl, h0, r0⟩ := trodAll_cons h
  obtain ⟨v1, vs1, d1, e1, p1, q1, rfl, rfl, rfl, h1, r1⟩ := trodAll_cons r0
  obtain ⟨v2, vs2, d2, e2, p2, q2, rfl, rfl, rfl, h2, r2⟩ := trodAll_cons r1
  obtain ⟨v3, vs3, d3, e3, p3, q3, rfl, rfl, rfl, h3, r3⟩ := trodAll_cons r2
  obtain ⟨v4, vs4, d4, e4, p4, q4, rfl, rfl, rfl, h4, r4⟩ := trodAll_cons r3
  obtain ⟨rfl, rfl, rfl⟩ := trodAll_nil r4
  exact ⟨v0, v1, v2, v3, v4, d0, d1, d2, d3, d4, p0, p1, p2, p3, p4, by cases args; simp_all, rfl, by simp, h0, h1, h2, h3, h4⟩
theorem trodAll_mk5 {t0 t1 t2 t3 t4 : TypeId} {v0 v1 v2 v3 v4 : Value} {d0 d1 d2 d3 d4 : DataW H} {p0 p1 p2 p3 p4 : List MemPlace} (h0 : DataW.Trod enc P w base spare held t0 v0 d0 p0) (h1 : DataW.Trod enc P w base spare held t1 v1 d1 p1) (h2 : DataW.Trod enc P w base spare held t2 v2 d2 p2) (h3 : DataW.Trod enc P w base spare held t3 v3 d3 p3) (h4 : DataW.Trod enc P w base spare held t4 v4 d4 p4) :
    DataW.TrodAll enc P w base spare held [t0, t1, t2, t3, t4] [v0, v1, v2, v3, v4] [d0, d1, d2, d3, d4] (p0 ++ (p1 ++ (p2 ++ (p3 ++ p4)))) := ⟨p0, p1 ++ (p2 ++ (p3 ++ p4)), h0, trodAll_mk4 h1 h2 h3 h4, rfl⟩
end
set_option maxRecDepth 100000 in
set_option maxHeartbeats 4000000 in
theorem grown_lifted (os : Os) (started : os.Started) (H : Type) (enc : TypeId × Value → H) :
    ReturnsInHanded {} Tryz.checked os 7 .any (Rows.grownSpec.pre6 enc Tryz.prog Tryz.f7 Rows.grownRow.domain false) (Rows.grownSpec.post enc Tryz.prog Tryz.f7 false true false false) := by
  refine returnsInHanded_of_change_sized (C := Tryz.checked) row_own started (by kernel_rfl) Tryz.func7
    (ChangeSpec.witness6 (enc := enc) (C := Tryz.checked) false ⟨#[], #[.agg #[.slice .none 0 0, .slice .none 0 0], .int .i64 0, .agg #[.slice .none 0 0, .slice .none 0 0], .int .i64 0, .agg #[.int .i64 0, .int .i64 0, .int .i64 0, .int .i64 0]], []⟩ 8 (by kernel_rfl) (by kernel_rfl) (by kernel_rfl) (by kernel_rfl)) ?_
  intro W base args ds gs before hval0 hW hcnd hsz0 _
  have hsz : (DataW.weightsEach Tryz.prog (Tryz.f7.params.toList ++ Rows.grownSpec.plain.varTypes Tryz.prog) (ds ++ gs)).all (· ≤ reachBytes) = true := hsz0
  have hval : ∀ (j : Nat) t v, Tryz.f7.params[j]? = some t → args[j]? = some v → Value.okWide Tryz.prog W .any base t v := hval0
  have hW' := hW
  obtain ⟨p, q, hA0, hV, rfl, hfz, hnd⟩ := hW
  have hA : DataW.TrodAll enc Tryz.prog W 0 (fun _ => true) true Tryz.f7.params.toList args.toList ds p := hA0
  rw [Tryz.params7] at hA hval hsz
  obtain ⟨v0, v1, v2, v3, v4, d0, d1, d2, d3, d4, p0, p1, p2, p3, p4, rfl, rfl, rfl, h0, h1, h2, h3, h4⟩ := trodAll_five hA
  obtain ⟨rfl, rfl⟩ := trodVars_none hV
  clear hA0 hval0 hsz0
  simp only [List.append_nil] at hW'
  have hw0 : ∀ n ∈ d0.weights Tryz.prog 28, n ≤ reachBytes := fun n hn => by simpa using List.all_eq_true.1 hsz n (DataW.weights_mem_each (j := 0) (t := 28) (d := d0) rfl rfl n hn)
  have hw1 : ∀ n ∈ d1.weights Tryz.prog 3, n ≤ reachBytes := fun n hn => by simpa using List.all_eq_true.1 hsz n (DataW.weights_mem_each (j := 1) (t := 3) (d := d1) rfl rfl n hn)
  have hw2 : ∀ n ∈ d2.weights Tryz.prog 64, n ≤ reachBytes := fun n hn => by simpa using List.all_eq_true.1 hsz n (DataW.weights_mem_each (j := 2) (t := 64) (d := d2) rfl rfl n hn)
  have hw3 : ∀ n ∈ d3.weights Tryz.prog 3, n ≤ reachBytes := fun n hn => by simpa using List.all_eq_true.1 hsz n (DataW.weights_mem_each (j := 3) (t := 3) (d := d3) rfl rfl n hn)
  have hw4 : ∀ n ∈ d4.weights Tryz.prog 30, n ≤ reachBytes := fun n hn => by simpa using List.all_eq_true.1 hsz n (DataW.weights_mem_each (j := 4) (t := 30) (d := d4) rfl rfl n hn)
  have t0 := h0
  have t1 := h1
  have t2 := h2
  have t3 := h3
  have t4 := h4
  obtain ⟨cs0, rfl, hc0⟩ := okWide_struct Tryz.underlying28 (hval 0 28 v0 rfl rfl)
  obtain ⟨c0, c1, rfl⟩ := Go.Joins.array2 (hc0.trans cells_clu)
  obtain ⟨wh, rfl⟩ := okWide_int Tryz.underlying3 (hval 1 3 v1 rfl rfl)
  obtain ⟨cs2, rfl, hc2⟩ := okWide_struct Tryz.underlying64 (hval 2 64 v2 rfl rfl)
  obtain ⟨y0, y1, rfl⟩ := Go.Joins.array2 (hc2.trans cells_rule)
  obtain ⟨sp, rfl⟩ := okWide_int Tryz.underlying3 (hval 3 3 v3 rfl rfl)
  obtain ⟨cs4, rfl, hc4⟩ := okWide_struct Tryz.underlying30 (hval 4 30 v4 rfl rfl)
  obtain ⟨x0, x1, x2, x3, rfl⟩ := Go.Joins.array4 (hc4.trans cells_pkt)
  obtain ⟨fu0, f0⟩ := h0
  obtain ⟨fu1, f1⟩ := h1
  obtain ⟨fu2, f2⟩ := h2
  obtain ⟨fu3, f3⟩ := h3
  obtain ⟨fu4, f4⟩ := h4
  obtain ⟨pa, pods, pc, qa, pols, qc, rfl, rfl, rp, rq, icl⟩ := open_clu f0 hw0
  obtain ⟨s1, e1, iw⟩ := open_it (show DataW.trod enc Tryz.prog W 0 (fun _ => true) true fu1 3 [.int .i64 wh] = some (d1, p1) from f1)
  obtain ⟨r, ra, sa, rc, sc, e2, rrp, rrq, ir⟩ := open_rule_val (show DataW.trod enc Tryz.prog W 0 (fun _ => true) true fu2 64 [y0, y1] = some (d2, p2) from f2) hw2
  obtain ⟨s3, e3, is⟩ := open_it (show DataW.trod enc Tryz.prog W 0 (fun _ => true) true fu3 3 [.int .i64 sp] = some (d3, p3) from f3)
  obtain ⟨k, rfl, rfl, rfl, rfl, ik⟩ := open_pkt f4 hw4
  simp only [List.cons.injEq, and_true] at e2
  obtain ⟨rfl, rfl⟩ := e2
  injection e1 with _ g1
  injection e3 with _ g3
  subst g1 g3
  refine (grown_any ⟨pods, pols⟩ r _ _ k pa qa ra sa pc qc rc sc W rp rq rrp rrq icl ir iw is ik).mono fun e W' ⟨he, hg⟩ => ?_
  subst he
  have hlt : ∀ x ∈ p0 ++ p1 ++ p2 ++ p3 ++ p4, x.block < W.heap.size := fun x hx => hW'.lt x hx
  exact ⟨_, rfl, post_of_below hW' (fun _ _ _ => (trodAll_cons_mk (shut_bool Tryz.underlying4 _) trodAll_mk0))
    (fun sp hsp => by
      have b0 := WideElems.Trod_stays (W' := W') (sp' := sp) row_laid clu_reads clu_row t0 (fun x hx => hg.same (hlt x (by simp [hx]))) (fun x hx => hsp x (by simp [hx]))
      have b1 := WideElems.Trod_stays (W' := W') (sp' := sp) row_laid int_reads int_row t1 (fun x hx => hg.same (hlt x (by simp [hx]))) (fun x hx => hsp x (by simp [hx]))
      have b2 := WideElems.Trod_stays (W' := W') (sp' := sp) row_laid rule_reads rule_row t2 (fun x hx => hg.same (hlt x (by simp [hx]))) (fun x hx => hsp x (by simp [hx]))
      have b3 := WideElems.Trod_stays (W' := W') (sp' := sp) row_laid int_reads int_row t3 (fun x hx => hg.same (hlt x (by simp [hx]))) (fun x hx => hsp x (by simp [hx]))
      have b4 := WideElems.Trod_stays (W' := W') (sp' := sp) row_laid pkt_reads pkt_row t4 (fun x hx => hg.same (hlt x (by simp [hx]))) (fun x hx => hsp x (by simp [hx]))
      have b5 := trodAll_mk5 b0 b1 b2 b3 b4
      simp only [← List.append_assoc] at b5
      exact b5) (fun _ => rfl) hg (ok_one (by kernel_rfl) rfl (okWide_bool_mk Tryz.underlying4 _))⟩
theorem grown_over : Rows.grownRow.holds Tryz.pinned (OpenSpec.ofChange Rows.grownSpec) :=
  OpenClaim.holds_of_wide 7 Tryz.f7 rfl rfl rfl rfl rfl rfl rfl ⟨rfl, rfl, rfl, rfl, rfl⟩ rfl rfl rfl rfl rfl (by kernel_rfl) Tryz.func7 (by kernel_rfl)
    (of_decide_eq_true (by kernel_rfl)) (by unfold Func.isWrapper; first | (rw [if_pos (by decide +kernel)]; kernel_rfl) | (rw [if_neg (by decide +kernel)]; exact ⟨rfl, rfl⟩))
    (fun os started H enc _ => grown_lifted os started H enc)
/-- The statement. -/
theorem grown_holds : Rows.GrownSaid := grown_over
#print axioms grown_holds
end Go.Proofs.YtmkjlhplgcifiaaGreat
