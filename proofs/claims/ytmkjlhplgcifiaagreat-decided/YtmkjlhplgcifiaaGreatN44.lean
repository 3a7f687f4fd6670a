/-
  palisadelaw: a step of the kinds up to 6, over the state of a script's world.
  The little cluster lies in new memory alone.
  palisadelaw: plays, walked: a script's steps, one after another.
-/
import Derived.Test.YtmkjlhplgcifiaaGreatN42
import Derived.Test.YtmkjlhplgcifiaaGreatN43
import Derived.Test.YtmkjlhplgcifiaaGreatN13
import Derived.Test.YtmkjlhplgcifiaaGreatN10
import Derived.Deep.MidRow
namespace Go.Proofs.YtmkjlhplgcifiaaGreat
open Go.ChangeShapes Go.WideShapes Go.ChangeAt Go.RowKit
attribute [local simp] World.cell?_grow
attribute [local go_sem] World.cell?_grow
attribute [local simp] World.cell?_alloc_there
attribute [local go_sem] World.cell?_alloc_there
attribute [local go_sem] eqg_blk std_blk eqg_pod std_pod eqg_sel std_sel eqg_prt std_prt
attribute [local go_sem ↓] eql_blk eql_sel neq_sel eql_prt eql_pod
attribute [local go_sem ↓] met_in1 met_in2 met_re1 met_re2
attribute [local go_sem ↓] met_has1 met_has2
attribute [local go_sem ↓] met_bl1 met_bl2
attribute [local go_sem] eqg_row std_row
attribute [local go_sem ↓] neq_row
set_option linter.unusedVariables false
set_option linter.unusedSimpArgs false
theorem call_rowed (x : DOp) {wb B : Nat} {vl vd : Value} {Ps : List DPair} {Ds : List DSl} {w : World} (h : St wb B vl vd Ps Ds w) {p : DPair} (hp : p ∈ Ps) (hDl : (Ds.length + 4) * 24 ≤ 140737488355328) (hx : ¬ x.kd = 3) (W : World) (hb : Below w.heap.size w W) :
    Calls Tryz.prog 51 #[.pointer (some ⟨wb, 0, none⟩), .agg #[.pointer (some ⟨p.tb, 0, none⟩), .pointer (some ⟨p.rb, 0, none⟩)], .agg #[.int .i64 x.kd, .int .i64 x.on, .int .i64 x.oa, .int .i64 x.ob, .slice x.s4.a x.s4.n x.s4.c, .slice x.s5.a x.s5.n x.s5.c, .int .i64 x.k.src, .int .i64 x.k.dst, .int .i64 x.k.proto, .int .i64 x.k.port, .int .i64 x.d0, .int .i64 x.d1, .int .i64 x.d2, .int .i64 x.d3, .int .i64 x.q0, .int .i64 x.q1, .int .i64 x.q2, .int .i64 x.q3, .slice x.s18.a x.s18.n x.s18.c, .slice x.s19.a x.s19.n x.s19.c]] W fun e w' => e = .returned (.bool true) ∧ StepOk x wb B vl vd Ps Ds w w' := by
  have hW := h.grow hb
  obtain ⟨hc, ⟨T, hT⟩, pa, qa, pc, qc, r0, r1, hP, hQ⟩ := hW.pair hp
  obtain ⟨l1, l2⟩ := right_lens (h.2.2.2.2.1 p hp).1
  by_cases hm : (x.oa, x.ob) ∈ plist
  · by_cases hk : pktOk x.k = true
    · exact (rowed_any x.kd x.on x.oa x.ob x.d0 x.d1 x.d2 x.d3 x.q0 x.q1 x.q2 x.q3 x.s4 x.s5 x.s18 x.s19 x.k p.c T p.tb p.rb pa qa pc qc W hT r0 r1 hP hQ hc l1 l2 wb B vl vd Ds hW.2.1 hW.2.2.2.1 hDl h.1.1 hm hk).mono fun e w' ⟨he, ho⟩ => ⟨he, StepOk.rowed h hb hx ho⟩
    · exact (rowed_bad x.kd x.on x.oa x.ob x.d0 x.d1 x.d2 x.d3 x.q0 x.q1 x.q2 x.q3 x.s4 x.s5 x.s18 x.s19 x.k p.c T p.tb p.rb pa qa pc qc W hT r0 r1 hP hQ hc l1 l2 wb B vl vd Ds hW.2.1 hW.2.2.2.1 hDl h.1.1 hm (by simpa using hk)).mono fun e w' ⟨he, ho⟩ => ⟨he, StepOk.rowed h hb hx ho⟩
  · exact (rowed_none x.kd x.on x.oa x.ob x.d0 x.d1 x.d2 x.d3 x.q0 x.q1 x.q2 x.q3 x.s4 x.s5 x.s18 x.s19 x.k p.c T p.tb p.rb wb W hT hm).mono fun e w' ⟨he, ho⟩ => ⟨he, StepOk.below h (Ext.trans hb ho) (fun e => hx e.1)⟩
theorem call_decided (x : DOp) {wb B : Nat} {vl vd : Value} {Ps : List DPair} {Ds : List DSl} {w : World} (h : St wb B vl vd Ps Ds w) {p : DPair} (hp : p ∈ Ps) (hDl : (Ds.length + 4) * 24 ≤ 140737488355328) (hx : ¬ x.kd = 3) (W : World) (hb : Below w.heap.size w W) :
    Calls Tryz.prog 52 #[.pointer (some ⟨wb, 0, none⟩), .agg #[.pointer (some ⟨p.tb, 0, none⟩), .pointer (some ⟨p.rb, 0, none⟩)], .agg #[.int .i64 x.kd, .int .i64 x.on, .int .i64 x.oa, .int .i64 x.ob, .slice x.s4.a x.s4.n x.s4.c, .slice x.s5.a x.s5.n x.s5.c, .int .i64 x.k.src, .int .i64 x.k.dst, .int .i64 x.k.proto, .int .i64 x.k.port, .int .i64 x.d0, .int .i64 x.d1, .int .i64 x.d2, .int .i64 x.d3, .int .i64 x.q0, .int .i64 x.q1, .int .i64 x.q2, .int .i64 x.q3, .slice x.s18.a x.s18.n x.s18.c, .slice x.s19.a x.s19.n x.s19.c]] W fun e w' => e = .returned (.bool true) ∧ StepOk x wb B vl vd Ps Ds w w' := by
  have hW := h.grow hb
  obtain ⟨hc, ⟨T, hT⟩, pa, qa, pc, qc, r0, r1, hP, hQ⟩ := hW.pair hp
  obtain ⟨l1, l2⟩ := right_lens (h.2.2.2.2.1 p hp).1
  by_cases hm : (x.oa, x.ob) ∈ plist
  · by_cases hk : pktOk x.k = true
    · exact (decided_any x.kd x.on x.oa x.ob x.d0 x.d1 x.d2 x.d3 x.q0 x.q1 x.q2 x.q3 x.s4 x.s5 x.s18 x.s19 x.k p.c T p.tb p.rb pa qa pc qc W hT r0 r1 hP hQ hc l1 l2 wb B vl vd Ds hW.2.1 hW.2.2.2.1 hDl h.1.1 hm hk).mono fun e w' ⟨he, ho⟩ => ⟨he, StepOk.rowed h hb hx ho⟩
    · exact (decided_bad x.kd x.on x.oa x.ob x.d0 x.d1 x.d2 x.d3 x.q0 x.q1 x.q2 x.q3 x.s4 x.s5 x.s18 x.s19 x.k p.c T p.tb p.rb wb W hT hm (by simpa using hk)).mono fun e w' ⟨he, ho⟩ => ⟨he, StepOk.below h (Ext.trans hb ho) (fun e => hx e.1)⟩
  · exact (decided_none x.kd x.on x.oa x.ob x.d0 x.d1 x.d2 x.d3 x.q0 x.q1 x.q2 x.q3 x.s4 x.s5 x.s18 x.s19 x.k p.c T p.tb p.rb wb W hT hm).mono fun e w' ⟨he, ho⟩ => ⟨he, StepOk.below h (Ext.trans hb ho) (fun e => hx e.1)⟩
theorem call_admitted (x : DOp) {wb B : Nat} {vl vd : Value} {Ps : List DPair} {Ds : List DSl} {w : World} (h : St wb B vl vd Ps Ds w) {p : DPair} (hp : p ∈ Ps) (hx : ¬ x.kd = 3) (W : World) (hb : Below w.heap.size w W) :
    Calls Tryz.prog 53 #[.agg #[.pointer (some ⟨p.tb, 0, none⟩), .pointer (some ⟨p.rb, 0, none⟩)], .agg #[.int .i64 x.kd, .int .i64 x.on, .int .i64 x.oa, .int .i64 x.ob, .slice x.s4.a x.s4.n x.s4.c, .slice x.s5.a x.s5.n x.s5.c, .int .i64 x.k.src, .int .i64 x.k.dst, .int .i64 x.k.proto, .int .i64 x.k.port, .int .i64 x.d0, .int .i64 x.d1, .int .i64 x.d2, .int .i64 x.d3, .int .i64 x.q0, .int .i64 x.q1, .int .i64 x.q2, .int .i64 x.q3, .slice x.s18.a x.s18.n x.s18.c, .slice x.s19.a x.s19.n x.s19.c]] W fun e w' => e = .returned (.bool true) ∧ StepOk x wb B vl vd Ps Ds w w' := by
  have hW := h.grow hb
  obtain ⟨hc, ⟨T, hT⟩, pa, qa, pc, qc, r0, r1, hP, hQ⟩ := hW.pair hp
  have hr := (h.2.2.2.2.1 p hp).1
  by_cases hk : pktOk x.k = true
  · exact (admitted_any x.kd x.on x.oa x.ob x.d0 x.d1 x.d2 x.d3 x.q0 x.q1 x.q2 x.q3 x.s4 x.s5 x.s18 x.s19 x.k p.c T p.tb p.rb pa qa pc qc W hT r0 r1 hP hQ hc hr hk).mono fun e w' ⟨he, ho⟩ => ⟨he, StepOk.below h (Ext.trans hb ho) (fun e => hx e.1)⟩
  · exact (admitted_bad x.kd x.on x.oa x.ob x.d0 x.d1 x.d2 x.d3 x.q0 x.q1 x.q2 x.q3 x.s4 x.s5 x.s18 x.s19 x.k p.tb p.rb W (by simpa using hk)).mono fun e w' ⟨he, ho⟩ => ⟨he, StepOk.below h (Ext.trans hb ho) (fun e => hx e.1)⟩
/-- which pair lies where -/
theorem St.at {wb B : Nat} {vl vd : Value} {Ps : List DPair} {Ds : List DSl} {w : World} (h : St wb B vl vd Ps Ds w) {j : Nat} {p : DPair} (hj : Ps[j]? = some p) :
    ∃ g lc, vl = .slice (some ⟨g, 0, none⟩) Ps.length lc ∧ w.cell? ⟨g, j * 2, none⟩ = some (.pointer (some ⟨p.tb, 0, none⟩)) ∧ w.cell? ⟨g, j * 2 + 1, none⟩ = some (.pointer (some ⟨p.rb, 0, none⟩)) := by
  obtain ⟨la, lc, hvl, _, hcell⟩ := own_slice h.2.2.1
  have hj2 : (Ps.map DPair.at)[j]? = some (p.tb, p.rb) := by rw [List.getElem?_map, hj]; rfl
  have k0 := oflat_get (k := 2) (enc := encPair) (fun _ => rfl) _ j _ 0 hj2 (by decide)
  have k1 := oflat_get (k := 2) (enc := encPair) (fun _ => rfl) _ j _ 1 hj2 (by decide)
  obtain ⟨b, hb, _, _, c0⟩ := hcell _ _ (k0.trans rfl)
  obtain ⟨b', hb', _, _, c1⟩ := hcell _ _ (k1.trans rfl)
  subst hb
  cases hb'
  exact ⟨b, lc, by rw [hvl, List.length_map], c0, c1⟩
theorem St.none {wb B : Nat} {vl vd : Value} {Ps : List DPair} {Ds : List DSl} {w : World} (h : St wb B vl vd Ps Ds w) (hP : Ps = []) : ∃ la lc, w.cell? ⟨wb, 0, none⟩ = some (.slice la 0 lc) := by
  obtain ⟨la, lc, hvl, _, _⟩ := own_slice h.2.2.1
  refine ⟨la, lc, ?_⟩
  rw [(blk_cell h.2.1 0).trans rfl]
  show some vl = _
  rw [hvl, hP]; rfl
set_option maxRecDepth 100000 in
set_option maxHeartbeats 2000000 in
theorem step_any (x : DOp) {wb B : Nat} {vl vd : Value} {Ps : List DPair} {Ds : List DSl} {w : World} (h : St wb B vl vd Ps Ds w) (ho : okOp w.heap.size w x) (hon : i64 x.on) (hk : x.kd ≤ 6) (hPl : (Ps.length + 1) * 16 ≤ 140737488355328) (hDl : (Ds.length + 4) * 24 ≤ 140737488355328) :
    Calls Tryz.prog 30 #[.pointer (some ⟨wb, 0, none⟩), .agg #[.int .i64 x.kd, .int .i64 x.on, .int .i64 x.oa, .int .i64 x.ob, .slice x.s4.a x.s4.n x.s4.c, .slice x.s5.a x.s5.n x.s5.c, .int .i64 x.k.src, .int .i64 x.k.dst, .int .i64 x.k.proto, .int .i64 x.k.port, .int .i64 x.d0, .int .i64 x.d1, .int .i64 x.d2, .int .i64 x.d3, .int .i64 x.q0, .int .i64 x.q1, .int .i64 x.q2, .int .i64 x.q3, .slice x.s18.a x.s18.n x.s18.c, .slice x.s19.a x.s19.n x.s19.c]] w fun e w' => e = .returned (.bool true) ∧ StepOk x wb B vl vd Ps Ds w w' := by
  obtain ⟨kd, on, oa, ob, ⟨pa, pn, pc⟩, ⟨qa, qn, qc⟩, k, d0, d1, d2, d3, q0, q1, q2, q3, s18, s19, c, outs, ins⟩ := x
  obtain ⟨⟨e4, e5, _, _⟩, hp, hq, _, _⟩ := ho
  simp only at e4 e5 hp hq hk hon
  subst e4 e5
  by_cases h1 : kd = 1
  · subst h1
    exact step_one on oa ob d0 d1 d2 d3 q0 q1 q2 q3 ⟨pa, c.pods.length, pc⟩ ⟨qa, c.pols.length, qc⟩ s18 s19 k wb w _ (hid fun W hb => (plain_one on oa ob d0 d1 d2 d3 q0 q1 q2 q3 s18 s19 k c pa qa pc qc W (rdPods.to hp hb) (rdPols.to hq hb)).mono fun e w' ⟨he, ho⟩ => ⟨he, StepOk.below h (Ext.trans hb ho) (fun e => by cases e.1)⟩)
  by_cases h2 : kd = 2
  · subst h2
    exact step_two on oa ob d0 d1 d2 d3 q0 q1 q2 q3 ⟨pa, c.pods.length, pc⟩ ⟨qa, c.pols.length, qc⟩ s18 s19 k wb w _ (hid fun W hb => (plain_two on oa ob d0 d1 d2 d3 q0 q1 q2 q3 s18 s19 c k pa qa pc qc W (rdPods.to hp hb) (rdPols.to hq hb)).mono fun e w' ⟨he, ho⟩ => ⟨he, StepOk.below h (Ext.trans hb ho) (fun e => by cases e.1)⟩)
  by_cases h3 : kd = 3
  · subst h3
    refine step_three on oa ob d0 d1 d2 d3 q0 q1 q2 q3 ⟨pa, c.pods.length, pc⟩ ⟨qa, c.pols.length, qc⟩ s18 s19 k wb w _ (hid fun W hb => ?_)
    by_cases hr : (right c).1 = 0
    · have hW := h.grow hb
      exact (compiled_ok wb B vl vd (Ps.map DPair.at) c pa qa pc qc W (rdPods.to hp hb) (rdPols.to hq hb) hr hW.2.1 hW.2.2.1 h.1.1 (by rw [List.length_map]; exact hPl)).mono fun e w' ⟨he, ho⟩ => ⟨he, StepOk.compiled h hb hr ho⟩
    · exact (compiled_err wb c pa qa pc qc W (rdPods.to hp hb) (rdPols.to hq hb) hr).mono fun e w' ⟨he, ho⟩ => ⟨he, StepOk.below h (Ext.trans hb ho) (fun e => hr e.2)⟩
  by_cases hP : Ps = []
  · obtain ⟨la, lc, hl⟩ := h.none hP
    exact (step_empty on oa ob d0 d1 d2 d3 q0 q1 q2 q3 ⟨pa, c.pods.length, pc⟩ ⟨qa, c.pols.length, qc⟩ s18 s19 k kd wb la lc w h1 h2 h3 hl).mono fun e w' ⟨he, ho⟩ => ⟨he, StepOk.below h ho (fun e => h3 e.1)⟩
  have hn : 0 < Ps.length := List.length_pos_iff.2 hP
  obtain ⟨z0, z1⟩ := pk_in (c := on) (n := (Ps.length : Int)) (by omega)
  obtain ⟨j, hj⟩ : ∃ j : Nat, pk on (Ps.length : Int) = (j : Int) := ⟨(pk on (Ps.length : Int)).toNat, by omega⟩
  have hjl : j < Ps.length := by omega
  obtain ⟨p, hpj⟩ : ∃ p, Ps[j]? = some p := ⟨Ps[j], List.getElem?_eq_getElem hjl⟩
  have hmem := List.mem_of_getElem? hpj
  obtain ⟨g, lc, hvl, c0, c1⟩ := h.at hpj
  have hl : w.cell? ⟨wb, 0, none⟩ = some (.slice (some ⟨g, 0, none⟩) Ps.length lc) := by rw [(blk_cell h.2.1 0).trans rfl, ← hvl]; rfl
  by_cases h4 : kd = 4
  · subst h4
    exact step_four on oa ob d0 d1 d2 d3 q0 q1 q2 q3 ⟨pa, c.pods.length, pc⟩ ⟨qa, c.pols.length, qc⟩ s18 s19 k wb g lc Ps.length j p.tb p.rb w _ (by omega) hjl hon hj hl c0 c1 (hid fun W hb => call_rowed _ h hmem hDl (show ¬ (4 : Int) = 3 by decide) W hb)
  by_cases h5 : kd = 5
  · subst h5
    exact step_five on oa ob d0 d1 d2 d3 q0 q1 q2 q3 ⟨pa, c.pods.length, pc⟩ ⟨qa, c.pols.length, qc⟩ s18 s19 k wb g lc Ps.length j p.tb p.rb w _ (by omega) hjl hon hj hl c0 c1 (hid fun W hb => call_decided _ h hmem hDl (show ¬ (5 : Int) = 3 by decide) W hb)
  by_cases h6 : kd = 6
  · subst h6
    exact step_six on oa ob d0 d1 d2 d3 q0 q1 q2 q3 ⟨pa, c.pods.length, pc⟩ ⟨qa, c.pols.length, qc⟩ s18 s19 k wb g lc Ps.length j p.tb p.rb w _ (by omega) hjl hon hj hl c0 c1 (hid fun W hb => call_admitted _ h hmem (show ¬ (6 : Int) = 3 by decide) W hb)
  refine step_else on oa ob d0 d1 d2 d3 q0 q1 q2 q3 ⟨pa, c.pods.length, pc⟩ ⟨qa, c.pols.length, qc⟩ s18 s19 k kd wb g lc Ps.length j p.tb p.rb w _ h1 h2 h3 h4 h5 h6 (by omega) hjl hon hj hl c0 c1 (hid fun W hb => ?_)
  exact (changes_other on oa ob d0 d1 d2 d3 q0 q1 q2 q3 ⟨pa, c.pods.length, pc⟩ ⟨qa, c.pols.length, qc⟩ s18 s19 k kd p.tb p.rb W (by omega) (by omega) (by omega) (by omega)).mono fun e w' ⟨he, ho⟩ => ⟨he, StepOk.below h (Ext.trans hb ho) (fun e => h3 e.1)⟩
end Go.Proofs.YtmkjlhplgcifiaaGreat
namespace Go.Proofs.YtmkjlhplgcifiaaGreat
open Go.ChangeShapes Go.WideShapes Go.ChangeAt Go.RowKit
attribute [local simp] World.cell?_grow
attribute [local go_sem] World.cell?_grow
attribute [local simp] World.cell?_alloc_there
attribute [local go_sem] World.cell?_alloc_there
attribute [local go_sem] eqg_blk std_blk eqg_pod std_pod eqg_sel std_sel eqg_prt std_prt
attribute [local go_sem ↓] eql_blk eql_sel neq_sel eql_prt eql_pod
attribute [local go_sem ↓] met_in1 met_in2 met_re1 met_re2
set_option linter.unusedVariables false
set_option linter.unusedSimpArgs false
set_option maxRecDepth 100000 in
set_option maxHeartbeats 4000000 in
theorem little_up (w : World) :
    Calls Tryz.prog 29 #[] w fun e w' => ∃ pa qa, e = .returned (.agg #[.slice pa 2 2, .slice qa 1 1]) ∧ rdPods w'.heap.size (hide w' (low w.heap.size)) pa litClu.pods ∧ rdPols w'.heap.size (hide w' (low w.heap.size)) qa litClu.pols ∧ Below w.heap.size w w' := by
  go_enter Tryz.func29, Tryz.ntmps29
  go_wp2
  generalize hW : ((((((((w.alloc (Obj.cells #[.slice (some ⟨w.heap.size + 1 + 1 + 1 + 1 + 1 + 1, 0, none⟩) 2 2, .slice (some ⟨w.heap.size + 1 + 1 + 1 + 1 + 1 + 1 + 1, 0, none⟩) 1 1] 28)).alloc (Obj.cells #[.int .i64 1, .int .i64 1, .int .i64 0, .int .i64 0, .int .i64 0, .int .i64 0, .slice none 0 0] 69)).alloc (Obj.cells #[.int .i64 1, .int .i64 80, .int .i64 90] 109)).alloc (Obj.cells #[.slice (some ⟨w.heap.size + 1, 0, none⟩) 1 1, .slice (some ⟨w.heap.size + 1 + 1, 0, none⟩) 1 1] 64)).alloc (Obj.cells #[.slice (some ⟨w.heap.size + 1, 0, none⟩) 1 1, .slice (some ⟨w.heap.size + 1 + 1, 0, none⟩) 1 1] 64)).alloc (Obj.cells #[.int .i64 0, .int .i64 2, .int .i64 0, .int .i64 2, .slice none 0 0, .slice (some ⟨w.heap.size + 1 + 1 + 1 + 1, 0, none⟩) 1 1] 59)).alloc (Obj.cells #[.int .i64 0, .int .i64 5, .int .i64 0, .int .i64 1, .int .i64 1, .int .i64 6, .int .i64 0, .int .i64 2] 54)).alloc (Obj.cells #[.int .i64 0, .int .i64 2, .int .i64 0, .int .i64 2, .slice none 0 0, .slice (some ⟨w.heap.size + 1 + 1 + 1 + 1, 0, none⟩) 1 1] 59)) = W
  have hs : W.heap.size = w.heap.size + 8 := by rw [← hW]; simp
  have HB : Below w.heap.size w W := by rw [← hW]; exact (by repeat (first | exact Below.refl _ _ | assumption | apply Ext.alloc | apply Ext.drewN | apply Ext.drew | refine Ext.trans ?_ (by assumption)))
  have p0 : W.cell? ⟨w.heap.size + 1 + 1 + 1 + 1 + 1 + 1, 0, none⟩ = some (.int .i64 0) := by rw [← hW]; simp [go_sem]
  have p1 : W.cell? ⟨w.heap.size + 1 + 1 + 1 + 1 + 1 + 1, 1, none⟩ = some (.int .i64 5) := by rw [← hW]; simp [go_sem]
  have p2 : W.cell? ⟨w.heap.size + 1 + 1 + 1 + 1 + 1 + 1, 2, none⟩ = some (.int .i64 0) := by rw [← hW]; simp [go_sem]
  have p3 : W.cell? ⟨w.heap.size + 1 + 1 + 1 + 1 + 1 + 1, 3, none⟩ = some (.int .i64 1) := by rw [← hW]; simp [go_sem]
  have p4 : W.cell? ⟨w.heap.size + 1 + 1 + 1 + 1 + 1 + 1, 4, none⟩ = some (.int .i64 1) := by rw [← hW]; simp [go_sem]
  have p5 : W.cell? ⟨w.heap.size + 1 + 1 + 1 + 1 + 1 + 1, 5, none⟩ = some (.int .i64 6) := by rw [← hW]; simp [go_sem]
  have p6 : W.cell? ⟨w.heap.size + 1 + 1 + 1 + 1 + 1 + 1, 6, none⟩ = some (.int .i64 0) := by rw [← hW]; simp [go_sem]
  have p7 : W.cell? ⟨w.heap.size + 1 + 1 + 1 + 1 + 1 + 1, 7, none⟩ = some (.int .i64 2) := by rw [← hW]; simp [go_sem]
  have q0 : W.cell? ⟨w.heap.size + 1 + 1 + 1 + 1 + 1 + 1 + 1, 0, none⟩ = some (.int .i64 0) := by rw [← hW]; simp [go_sem]
  have q1 : W.cell? ⟨w.heap.size + 1 + 1 + 1 + 1 + 1 + 1 + 1, 1, none⟩ = some (.int .i64 2) := by rw [← hW]; simp [go_sem]
  have q2 : W.cell? ⟨w.heap.size + 1 + 1 + 1 + 1 + 1 + 1 + 1, 2, none⟩ = some (.int .i64 0) := by rw [← hW]; simp [go_sem]
  have q3 : W.cell? ⟨w.heap.size + 1 + 1 + 1 + 1 + 1 + 1 + 1, 3, none⟩ = some (.int .i64 2) := by rw [← hW]; simp [go_sem]
  have q4 : W.cell? ⟨w.heap.size + 1 + 1 + 1 + 1 + 1 + 1 + 1, 4, none⟩ = some (.slice none 0 0) := by rw [← hW]; simp [go_sem]
  have q5 : W.cell? ⟨w.heap.size + 1 + 1 + 1 + 1 + 1 + 1 + 1, 5, none⟩ = some (.slice (some ⟨w.heap.size + 1 + 1 + 1 + 1, 0, none⟩) 1 1) := by rw [← hW]; simp [go_sem]
  have r0 : W.cell? ⟨w.heap.size + 1 + 1 + 1 + 1, 0, none⟩ = some (.slice (some ⟨w.heap.size + 1, 0, none⟩) 1 1) := by rw [← hW]; simp [go_sem]
  have r1 : W.cell? ⟨w.heap.size + 1 + 1 + 1 + 1, 1, none⟩ = some (.slice (some ⟨w.heap.size + 1 + 1, 0, none⟩) 1 1) := by rw [← hW]; simp [go_sem]
  have e0 : W.cell? ⟨w.heap.size + 1, 0, none⟩ = some (.int .i64 1) := by rw [← hW]; simp [go_sem]
  have e1 : W.cell? ⟨w.heap.size + 1, 1, none⟩ = some (.int .i64 1) := by rw [← hW]; simp [go_sem]
  have e2 : W.cell? ⟨w.heap.size + 1, 2, none⟩ = some (.int .i64 0) := by rw [← hW]; simp [go_sem]
  have e3 : W.cell? ⟨w.heap.size + 1, 3, none⟩ = some (.int .i64 0) := by rw [← hW]; simp [go_sem]
  have e4 : W.cell? ⟨w.heap.size + 1, 4, none⟩ = some (.int .i64 0) := by rw [← hW]; simp [go_sem]
  have e5 : W.cell? ⟨w.heap.size + 1, 5, none⟩ = some (.int .i64 0) := by rw [← hW]; simp [go_sem]
  have e6 : W.cell? ⟨w.heap.size + 1, 6, none⟩ = some (.slice none 0 0) := by rw [← hW]; simp [go_sem]
  have t0 : W.cell? ⟨w.heap.size + 1 + 1, 0, none⟩ = some (.int .i64 1) := by rw [← hW]; simp [go_sem]
  have t1 : W.cell? ⟨w.heap.size + 1 + 1, 1, none⟩ = some (.int .i64 80) := by rw [← hW]; simp [go_sem]
  have t2 : W.cell? ⟨w.heap.size + 1 + 1, 2, none⟩ = some (.int .i64 90) := by rw [← hW]; simp [go_sem]
  have c0 : W.cell? ⟨w.heap.size, 0, none⟩ = some (.slice (some ⟨w.heap.size + 1 + 1 + 1 + 1 + 1 + 1, 0, none⟩) 2 2) := by rw [← hW]; simp [go_sem]
  have c1 : W.cell? ⟨w.heap.size, 1, none⟩ = some (.slice (some ⟨w.heap.size + 1 + 1 + 1 + 1 + 1 + 1 + 1, 0, none⟩) 1 1) := by rw [← hW]; simp [go_sem]
  clear hW
  have hid2 : ∀ {b o : Nat} {u : Value}, w.heap.size ≤ b → W.cell? ⟨b, o, none⟩ = some u → (hide W (low w.heap.size)).cell? ⟨b, o, none⟩ = some u := fun hb h => (hide_cell _ _ _ _ (low_false.2 hb)).trans h
  replace p0 := hid2 (by omega) p0
  replace p1 := hid2 (by omega) p1
  replace p2 := hid2 (by omega) p2
  replace p3 := hid2 (by omega) p3
  replace p4 := hid2 (by omega) p4
  replace p5 := hid2 (by omega) p5
  replace p6 := hid2 (by omega) p6
  replace p7 := hid2 (by omega) p7
  replace q0 := hid2 (by omega) q0
  replace q1 := hid2 (by omega) q1
  replace q2 := hid2 (by omega) q2
  replace q3 := hid2 (by omega) q3
  replace q4 := hid2 (by omega) q4
  replace q5 := hid2 (by omega) q5
  replace r0 := hid2 (by omega) r0
  replace r1 := hid2 (by omega) r1
  replace e0 := hid2 (by omega) e0
  replace e1 := hid2 (by omega) e1
  replace e2 := hid2 (by omega) e2
  replace e3 := hid2 (by omega) e3
  replace e4 := hid2 (by omega) e4
  replace e5 := hid2 (by omega) e5
  replace e6 := hid2 (by omega) e6
  replace t0 := hid2 (by omega) t0
  replace t1 := hid2 (by omega) t1
  replace t2 := hid2 (by omega) t2
  refine bodyPost_ret (v := .agg #[.slice (some ⟨w.heap.size + 1 + 1 + 1 + 1 + 1 + 1, 0, none⟩) 2 2, .slice (some ⟨w.heap.size + 1 + 1 + 1 + 1 + 1 + 1 + 1, 0, none⟩) 1 1]) (by simp [results, Tryz.results29, go_sem, c0, c1]) rfl ⟨_, _, rfl, ?_, ?_, HB⟩
  · exact rd_two (by decide) (by omega) ⟨p0, p1, p2, p3⟩ ⟨p4, p5, p6, p7⟩
  · exact rd_one (by decide) (by omega) ⟨q0, q1, q2, q3, ⟨none, 0, q4, rd_nil _ _ _ _ _ _⟩, _, _, q5, rd_one (by decide) (by omega) ⟨⟨_, _, r0, rd_one (by decide) (by omega) ⟨e0, e1, e2, e3, e4, e5, none, 0, e6, rd_nil _ _ _ _ _ _⟩⟩, _, _, r1, rd_one (by decide) (by omega) ⟨t0, t1, t2⟩⟩⟩
end Go.Proofs.YtmkjlhplgcifiaaGreat
namespace Go.Proofs.YtmkjlhplgcifiaaGreat
open Go.ChangeShapes Go.WideShapes Go.ChangeAt Go.RowKit
attribute [local simp] World.cell?_grow
attribute [local go_sem] World.cell?_grow
attribute [local simp] World.cell?_alloc_there
attribute [local go_sem] World.cell?_alloc_there
attribute [local go_sem] eqg_blk std_blk eqg_pod std_pod eqg_sel std_sel eqg_prt std_prt
attribute [local go_sem ↓] eql_blk eql_sel neq_sel eql_prt eql_pod
attribute [local go_sem ↓] met_in1 met_in2 met_re1 met_re2
attribute [local go_sem ↓] met_has1 met_has2
attribute [local go_sem ↓] met_bl1 met_bl2
attribute [local go_sem] eqg_row std_row
attribute [local go_sem ↓] neq_row
set_option linter.unusedVariables false
set_option linter.unusedSimpArgs false
def nilSl : DSl := ⟨none, 0, 0⟩
def opC (xa ya : Option Addr) : DOp := ⟨3, 0, 0, 0, ⟨xa, 2, 2⟩, ⟨ya, 1, 1⟩, ⟨0, 0, 0, 0⟩, 0, 0, 0, 0, 0, 0, 0, 0, nilSl, nilSl, litClu, [], []⟩
def opQ (kd : Int) (k : DPkt) : DOp := ⟨kd, 0, 1, 2, nilSl, nilSl, k, 0, 0, 0, 0, 0, 0, 0, 0, nilSl, nilSl, ⟨[], []⟩, [], []⟩
/-- the steps ahead of any script -/
def five (xa ya : Option Addr) : List DOp := [opC xa ya, opQ 4 ⟨5, 6, 1, 80⟩, opQ 4 ⟨6, 6, 1, 80⟩, opQ 5 ⟨5, 6, 1, 80⟩, opQ 5 ⟨6, 6, 1, 80⟩]
theorem lit_right : (right litClu).1 = 0 := by decide
theorem okQ (B : Nat) (w : World) (kd : Int) (k : DPkt) : okOp B w (opQ kd k) := ⟨⟨rfl, rfl, rfl, rfl⟩, rd_nil _ _ _ _ _ _, rd_nil _ _ _ _ _ _, rd_nil _ _ _ _ _ _, rd_nil _ _ _ _ _ _⟩
theorem okC {B : Nat} {w : World} {xa ya : Option Addr} (hx : rdPods B w xa litClu.pods) (hy : rdPols B w ya litClu.pols) : okOp B w (opC xa ya) := ⟨⟨rfl, rfl, rfl, rfl⟩, hx, hy, rd_nil _ _ _ _ _ _, rd_nil _ _ _ _ _ _⟩
theorem five_ok {B : Nat} {w : World} {xa ya : Option Addr} (hx : rdPods B w xa litClu.pods) (hy : rdPols B w ya litClu.pols) : ∀ x ∈ five xa ya, okOp B w x ∧ i64 x.on := by
  intro x hx'
  have z : i64 0 := ⟨by omega, by omega⟩
  simp only [five, List.mem_cons, List.not_mem_nil, or_false] at hx'
  rcases hx' with rfl | rfl | rfl | rfl | rfl
  · exact ⟨okC hx hy, z⟩
  · exact ⟨okQ _ _ _ _, z⟩
  · exact ⟨okQ _ _ _ _, z⟩
  · exact ⟨okQ _ _ _ _, z⟩
  · exact ⟨okQ _ _ _ _, z⟩
theorem encOps_one (l : List DOp) : ∀ u ∈ l.flatMap encOp, u.oneCell' = true := by
  intro u hu
  obtain ⟨x, _, hx⟩ := List.mem_flatMap.1 hu
  simp only [encOp, List.mem_cons, List.not_mem_nil, or_false] at hx
  rcases hx with rfl | rfl | rfl | rfl | rfl | rfl | rfl | rfl | rfl | rfl | rfl | rfl | rfl | rfl | rfl | rfl | rfl | rfl | rfl | rfl <;> rfl
theorem info_op : (Tryz.prog.info? 88).map (fun i => (i.zero, i.size, i.bytes)) = some (some (.agg (encOp (opQ 0 ⟨0, 0, 0, 0⟩ |> fun x => { x with oa := 0, ob := 0 })).toArray), 20, 224) := by kernel_rfl
theorem five_own (X : World) (xa ya : Option Addr) (base g : Nat) (hb : base ≤ X.heap.size) (hg : g = X.heap.size) : (X.alloc (.cells ((five xa ya).flatMap encOp).toArray 88)).ownsRow base 88 20 (.slice (some ⟨g, 0, none⟩) 5 5) 5 ((five xa ya).flatMap encOp) := by
  subst hg
  exact own_built X _ base _ 20 5 hb rfl (by unfold maxLen; omega)
/-- the list of steps, read where the script's world is hidden -/
theorem ops_hidden {w : World} {wb base : Nat} {v : Value} {l : List DOp} (h : w.ownsRow base 88 20 v l.length (l.flatMap encOp)) (hb : wb < base) (hl : l.length * 200 ≤ 140737488351232) :
    ∃ a c, v = .slice a l.length c ∧ l.length ≤ c ∧ RdSl w.heap.size (hide w fun b => decide (b = wb)) 20 200 eOp a l := by
  have h2 : (hide w fun b => decide (b = wb)).ownsRow base 88 20 v l.length (l.flatMap encOp) := own_stay h fun g hg => hide_block _ _ _ (by have := (h.lt g hg).1; simp; omega)
  have h3 := own_rd (k := 20) (bytes := 200) (E := eOp) (enc := encOp) (fun _ => rfl) h2 (by decide) hl (fun b o x _ _ hc => hc)
  rw [hide_size] at h3
  exact h3
theorem ops_to {B : Nat} {w w' : World} {a : Option Addr} {l : List DOp} (h : RdSl w.heap.size w 20 224 eOp a l) (hb : Below w.heap.size w w') (hB : w.heap.size ≤ B) : RdSl B w' 20 224 eOp a l :=
  RdSl.ext h hB fun b o x hl he j u hj => by rw [hb.cell (p := ⟨b, o + j, none⟩) hl]; exact he j u hj
theorem sub_old {w w' : World} {wb : Nat} (hb : Below w.heap.size w w') (hw : w.heap.size ≤ wb) : Sub w (hide w' fun b => decide (b = wb)) := fun b o u hu => by
  have hl := cell_lt hu
  rw [hide_cell w' _ b o (by simp; omega), hb.cell (p := ⟨b, o, none⟩) hl]
  exact hu
set_option maxRecDepth 100000 in
set_option maxHeartbeats 4000000 in
theorem plays_any (last : Int) (l : List DOp) (sa : Option Addr) (sc : Nat) (w : World) (hr : RdSl w.heap.size w 20 224 eOp sa l) (ho : ∀ x ∈ l, okOp w.heap.size w x ∧ iOp x) (h3 : 3 ≤ last)
    (hstep : ∀ (x : DOp) (wb B : Nat) (vl vd : Value) (Ps : List DPair) (Ds : List DSl) (w : World), St wb B vl vd Ps Ds w → okOp w.heap.size w x → i64 x.on → x.kd ≤ last → (Ps.length + 1) * 16 ≤ 140737488355328 → (Ds.length + 4) * 24 ≤ 140737488355328 →
      Calls Tryz.prog 30 #[.pointer (some ⟨wb, 0, none⟩), .agg (encOp x).toArray] w fun e w' => e = .returned (.bool true) ∧ StepOk x wb B vl vd Ps Ds w w') :
    Calls Tryz.prog 11 #[.slice sa l.length sc, .int .i64 last] w fun e w' => e = .returned (.bool true) ∧ Below w.heap.size w w' := by
  have HR := hid hr
  have HO := hid ho
  have HST := hid hstep
  have hlen := hr.1
  clear hr ho hstep
  obtain ⟨i0, hi, iz0, iz1, iz2⟩ := info_parts info_op
  go_enter Tryz.func11, Tryz.ntmps11
  go_wp2_with fail
  generalize hW : ((w.alloc (Obj.cells #[.slice none 0 0, .slice none 0 0] 85)).alloc (Obj.cells #[.int .i64 5, .int .i64 6, .int .i64 1, .int .i64 80] 30)).alloc (Obj.cells #[.int .i64 6, .int .i64 6, .int .i64 1, .int .i64 80] 30) = W
  have hsW : W.heap.size = w.heap.size + 3 := by rw [← hW]; simp
  have HBW := hid (show Below w.heap.size w W from by rw [← hW]; exact (by repeat (first | exact Below.refl _ _ | assumption | apply Ext.alloc | apply Ext.drewN | apply Ext.drew | refine Ext.trans ?_ (by assumption))))
  have HWB := hid (show W.heap[w.heap.size]? = some (.cells #[.slice none 0 0, .slice none 0 0] 85 (0, 0)) from by rw [← hW]; exact (Below.heap_alloc _ _ _ (by simp only [World.size_alloc]; omega)).trans ((Below.heap_alloc _ _ _ (by simp)).trans (new_heap _ _)))
  have y10 : W.cell? ⟨w.heap.size + 1, 0, none⟩ = some (.int .i64 5) := by rw [← hW]; simp [go_sem]
  have y11 : W.cell? ⟨w.heap.size + 1, 1, none⟩ = some (.int .i64 6) := by rw [← hW]; simp [go_sem]
  have y12 : W.cell? ⟨w.heap.size + 1, 2, none⟩ = some (.int .i64 1) := by rw [← hW]; simp [go_sem]
  have y13 : W.cell? ⟨w.heap.size + 1, 3, none⟩ = some (.int .i64 80) := by rw [← hW]; simp [go_sem]
  have y20 : W.cell? ⟨w.heap.size + 1 + 1, 0, none⟩ = some (.int .i64 6) := by rw [← hW]; simp [go_sem]
  have y21 : W.cell? ⟨w.heap.size + 1 + 1, 1, none⟩ = some (.int .i64 6) := by rw [← hW]; simp [go_sem]
  have y22 : W.cell? ⟨w.heap.size + 1 + 1, 2, none⟩ = some (.int .i64 1) := by rw [← hW]; simp [go_sem]
  have y23 : W.cell? ⟨w.heap.size + 1 + 1, 3, none⟩ = some (.int .i64 80) := by rw [← hW]; simp [go_sem]
  clear hW
  refine (little_up W).mono ?_
  rintro e w1 ⟨xa, ya, rfl, hx, hy, hb1⟩
  have HX := hid hx
  have HY := hid hy
  have hs1 := hb1.size
  have HB1 := hid (Ext.trans HBW.out hb1)
  have HW1 := hid ((hb1.block w.heap.size (by omega)).trans HWB.out)
  have z10 := cell_to y10 hb1
  have z11 := cell_to y11 hb1
  have z12 := cell_to y12 hb1
  have z13 := cell_to y13 hb1
  have z20 := cell_to y20 hb1
  have z21 := cell_to y21 hb1
  have z22 := cell_to y22 hb1
  have z23 := cell_to y23 hb1
  clear hx hy hb1 y10 y11 y12 y13 y20 y21 y22 y23
  obtain ⟨n, hn⟩ : ∃ n, n = 5 + l.length := ⟨_, rfl⟩
  obtain ⟨L, hL⟩ : ∃ L, L = five xa ya ++ l := ⟨_, rfl⟩
  have HN := hid hn
  have HLn := hid (show L.length = n by rw [hL, hn]; simp [five]; omega)
  have HL0 := hid (show L[0]? = some (opC xa ya) by rw [hL]; rfl)
  have HLF := hid (show L.flatMap encOp = (five xa ya).flatMap encOp ++ l.flatMap encOp by rw [hL, List.flatMap_append])
  have HLM := hid (show ∀ x ∈ L, x ∈ five xa ya ∨ x ∈ l by rw [hL]; intro x hx; exact List.mem_append.1 hx)
  have hnl : n * 220 ≤ 140737488351232 := by omega
  clear hn hL
  go_wp2_with (at_builtin; go_must (refine wpList_append_list _ rfl _ _ 22 rfl (w1.heap.size + 1) 88 i0 _ 20 224 Tryz.underlying22 hi iz0 iz1 iz2 rfl (by decide) (.slice (some ⟨w1.heap.size + 1, 0, none⟩) 5 5) 5 ((five xa ya).flatMap encOp) rfl (five_own (w1.alloc (.cells #[.slice xa 2 2, .slice ya 1 1] 28)) xa ya (w1.heap.size + 1) (w1.heap.size + 1) (by simp) (by simp)) sa _ sc (l.flatMap encOp) rfl (oflat_len (k := 20) (fun _ => rfl) _) (news_of (k := 20) (fun _ => rfl) (by decide) (ops_to HR.out ((HB1.out.alloc (by omega) _).alloc (by simp only [World.size_alloc]; omega) _) (Nat.le_refl _)) (fun _ _ _ h => h)) (encOps_one _) (by unfold maxLen; omega) (by omega) (by simp) ?_); intro v' w3 hown' hg3)
  have hown : w3.ownsRow (w1.heap.size + 1) 88 20 v' L.length (L.flatMap encOp) := by rw [HLn.out, HN.out, HLF.out]; exact hown'
  obtain ⟨va, vc, hv, hvc, hrd⟩ := ops_hidden (wb := w.heap.size) hown (by omega) (by rw [HLn.out]; omega)
  rw [HLn.out] at hv hvc
  subst hv
  have HRD := hid hrd
  have hB3 : Below w.heap.size w w3 := Below.grown ((HB1.out.alloc (by omega) _).alloc (by simp only [World.size_alloc]; omega) _) hg3 (by simp only [World.size_alloc]; omega) (fun j hj => by simp [Value.ownBlock] at hj; omega)
  have hB3' : Below w1.heap.size w1 w3 := Below.grown (((Below.refl w1.heap.size w1).alloc (Nat.le_refl _) _).alloc (by simp only [World.size_alloc]; omega) _) hg3 (by simp only [World.size_alloc]; omega) (fun j hj => by simp [Value.ownBlock] at hj; omega)
  have HB3 := hid hB3
  have hs3 := hB3'.size
  have HOK := hid (show ∀ x ∈ L, okOp w3.heap.size (hide w3 fun b => decide (b = w.heap.size)) x ∧ i64 x.on from fun x hx => by
    rcases HLM.out x hx with hx | hx
    · have hsub : Sub (hide w1 (low W.heap.size)) (hide w3 fun b => decide (b = w.heap.size)) := Sub.hide fun b hb hG => ⟨by have := low_false.1 hG; simp; omega, hB3'.block b hb⟩
      exact five_ok (rdPods.sub hsub hs3 HX.out) (rdPols.sub hsub hs3 HY.out) x hx
    · obtain ⟨h1, h2⟩ := HO.out x hx
      exact ⟨okOp.sub (sub_old hB3 (Nat.le_refl _)) (by omega) h1, h2.1.2.1⟩)
  have HS0 := hid (show StF w3.heap.size w3 w.heap.size w.heap.size (.slice none 0 0) (.slice none 0 0) [] [] w3 from
    ⟨⟨⟨Nat.le_refl _, rfl⟩, (hB3'.block w.heap.size (by omega)).trans HW1.out, World.ownsRow_nil _ _ _ _, World.ownsRow_nil _ _ _ _, fun p hp => (by simp at hp), fun k d hd => (by simp at hd)⟩, Nat.le_refl _, fun g hg => (by cases hg), fun g hg => (by cases hg), fun p hp => (by simp at hp), fun _ _ _ => rfl, rfl, rfl, rfl⟩)
  have hwb3 : w.heap.size < w3.heap.size := by omega
  clear hown hown' hg3 hrd hB3 hB3' z10 z11 z12 z13 z20 z21 z22 z23
  go_wp2_with fail
  go_loopw [10] (fun i wr => ∃ (k : Nat) (vl vd : Value) (Ps : List DPair) (Ds : List DSl), k ≤ n ∧ i = .int .i64 k ∧ StF w3.heap.size w3 w.heap.size w.heap.size vl vd Ps Ds wr ∧ Ps.length ≤ k ∧ Ds.length ≤ 4 * k ∧ (0 < k → 0 < Ps.length)) (fun i _ => n - (intOf i).toNat)
  case atStart => exact ⟨0, _, _, [], [], Nat.zero_le _, rfl, HS0.out, Nat.le_refl _, Nat.le_refl _, fun h => absurd h (Nat.lt_irrefl _)⟩
  case round =>
    obtain ⟨k, vl, vd, Ps, Ds, hk, rfl, hst, hPs, hDs, hpos⟩ := hrel
    obtain ⟨wa, hwa⟩ : ∃ wa, wa = wr := ⟨_, rfl⟩
    subst hwa
    have HSF := hid hst
    clear hst
    by_cases hlt : k < n
    · have zk : (k : Int) < (n : Int) := by omega
      obtain ⟨x, hxk⟩ : ∃ x, L[k]? = some x := ⟨L[k]'(by rw [HLn.out]; exact hlt), List.getElem?_eq_getElem _⟩
      have HXK := hid hxk
      obtain ⟨hokx, honx⟩ := HOK.out x (List.mem_of_getElem? hxk)
      obtain ⟨b, off, rfl, hb, he⟩ := HRD.out.2 k x hxk
      have HE := hid (show wa.rangeAt b (off + k * 20) (encOp x) from fun j u hj => HSF.out.sub rfl _ _ _ (he j u hj))
      have c0 : wa.cell? ⟨b, off + k * 20, none⟩ = some (.int .i64 x.kd) := HE.out 0 _ rfl
      have HOX := hid (okOp.sub (HSF.out.sub rfl) HSF.out.2.1 hokx)
      have HON := hid honx
      have HK0 := hid (show k = 0 → x.kd = 3 ∧ (right x.c).1 = 0 from fun e => by
        subst e
        have e := HL0.out
        rw [HXK.out] at e
        cases e
        exact ⟨rfl, lit_right⟩)
      clear hxk hokx honx he
      by_cases hkd : x.kd ≤ last
      · have zl : ¬ last < x.kd := by omega
        go_wp2_with (refine wpList_load_mid rfl 88 _ rfl b (off + k * 20) rfl (encOp x) _ HE.out Tryz.underlying88 rfl op_size ?_)
        refine (HST.out x w.heap.size w.heap.size vl vd Ps Ds wa HSF.out.1 HOX.out HON.out hkd (by omega) (by omega)).mono ?_
        rintro e w4 ⟨rfl, vl', vd', Ps', Ds', hst, hmv, l1, l2, l3, l4⟩
        have hp4 : 0 < Ps'.length := by
          rcases Nat.eq_zero_or_pos k with e | e
          · obtain ⟨e1, e2⟩ := HK0.out e
            have := l4 e1 e2
            omega
          · have := hpos e
            omega
        have HSF4 := hid (HSF.out.mv hst hmv)
        obtain ⟨la, lc, hvl, _, _⟩ := own_slice hst.2.2.1
        rw [List.length_map] at hvl
        have w40 : w4.cell? ⟨w.heap.size, 0, none⟩ = some (.slice la Ps'.length lc) := by rw [← hvl]; exact (blk_cell hst.2.1 0).trans rfl
        have HST4 := hid hst
        have zp : ¬ ((Ps'.length : Int) = 0) := by omega
        clear hst hmv l4 hvl c0
        go_wp2_with fail
        refine (HST4.out.looks (by omega)).mono ?_
        rintro e w5 ⟨rfl, hb5⟩
        have HSF5 := hid (HSF4.out.mv (HST4.out.grow hb5) (Mv.grow hb5))
        clear hb5 w40
        go_wp2
        exact ⟨⟨k + 1, vl', vd', Ps', Ds', by omega, by go_num, HSF5.out, by omega, by omega, fun _ => hp4⟩, by simp [intOf]; omega⟩
      · have zl : last < x.kd := by omega
        have hk0 : k ≠ 0 := fun e => by have := (HK0.out e).1; omega
        go_wp2
        exact ⟨⟨k + 1, vl, vd, Ps, Ds, by omega, by go_num, HSF.out, by omega, by omega, fun _ => hpos (by omega)⟩, by simp [intOf]; omega⟩
    · have zk : ¬ (k : Int) < (n : Int) := by omega
      go_wp2
      go_ret
      exact ⟨rfl, HB3.out.trans (HSF.out.below hwb3 rfl)⟩
end Go.Proofs.YtmkjlhplgcifiaaGreat
