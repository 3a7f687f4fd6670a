/-
  palisadelaw: a step of the kinds up to 6, over the state of a script's world.
-/
import Derived.Test.YtmkjlhplgcifiaaGreatH45
import Derived.Test.YtmkjlhplgcifiaaGreatH46
import Derived.Test.YtmkjlhplgcifiaaGreatH08
import Derived.Test.YtmkjlhplgcifiaaGreatH41
import Derived.Test.YtmkjlhplgcifiaaGreatH09
import Derived.Test.YtmkjlhplgcifiaaGreatH05
import Derived.Test.YtmkjlhplgcifiaaGreatH13
import Derived.Lib.AppendZeros
namespace Go.Proofs.YtmkjlhplgcifiaaGreat
open Go.ChangeShapes Go.WideShapes Go.ChangeAt Go.RowKit
set_option linter.unusedVariables false
set_option linter.unusedSimpArgs false
attribute [local simp] World.cell?_grow World.cell?_alloc_there
attribute [local go_sem] World.cell?_grow World.cell?_alloc_there eqg_blk std_blk eqg_pod std_pod eqg_sel std_sel eqg_prt std_prt eqg_row std_row
attribute [local go_sem ↓] eql_blk eql_sel neq_sel eql_prt eql_pod met_in1 met_in2 met_re1 met_re2 met_has1 met_has2 met_bl1 met_bl2 neq_row
theorem call_rowed (x : DOp) {wb B : Nat} {vl vd : Value} {Ps : List DPair} {Ds : List DSl} {w : World} (h : St wb B vl vd Ps Ds w) {p : DPair} (hp : p ∈ Ps) (hDl : (Ds.length + 4) * 24 ≤ 140737488355328) (hx : ¬ x.kd = 3) (W : World) (hb : Below w.heap.size w W) :
    Calls Tryz.prog 51 #[.pointer (some ⟨wb, 0, none⟩), .agg #[.pointer (some ⟨p.tb, 0, none⟩), .pointer (some ⟨p.rb, 0, none⟩)], .agg #[.int .i64 x.kd, .int .i64 x.on, .int .i64 x.oa, .int .i64 x.ob, .slice x.s4.a x.s4.n x.s4.c, .slice x.s5.a x.s5.n x.s5.c, .int .i64 x.k.src, .int .i64 x.k.dst, .int .i64 x.k.proto, .int .i64 x.k.port, .int .i64 x.d0, .int .i64 x.d1, .int .i64 x.d2, .int .i64 x.d3, .int .i64 x.q0, .int .i64 x.q1, .int .i64 x.q2, .int .i64 x.q3, .slice x.s18.a x.s18.n x.s18.c, .slice x.s19.a x.s19.n x.s19.c]] W fun e w' => e = .returned (.bool true) ∧ StepOk x wb B vl vd Ps Ds w w' := by
  have hW := h.grow hb
  obtain ⟨hc, ⟨T, hT⟩, pa, qa, pc, qc, r0, r1, hP, hQ⟩ := hW.pair hp
  obtain ⟨l1, l2⟩ := right_lens (h.2.2.2.2.1 p hp).1
  by_cases hm : (x.oa, x.ob) ∈ plist
  · by_cases hk : pktOk x.k = true
    · exact (rowed_any x.kd x.on x.oa x.ob x.d0 x.d1 x.d2 x.d3 x.q0 x.q1 x.q2 x.q3 x.s4 x.s5 x.s18 x.s19 x.k p.c T p.tb p.rb pa qa pc qc W hT r0 r1 hP hQ hc l1 l2 wb B vl vd Ds hW.2.1 hW.2.2.2.1 hDl h.1.1 hm hk).mono fun e w' ⟨he, ho⟩ => ⟨he, StepOk.rowed h hb hx ho⟩
    · exact (rowed_bad x.kd x.on x.oa x.ob x.d0 x.d1 x.d2 x.d3 x.q0 x.q1 x.q2 x.q3 x.s4 x.s5 x.s18 x.s19 x.k p.c T p.tb p.rb pa qa pc qc W hT r0 r1 hP hQ hc l1 l2 wb B vl vd Ds hW.2.1 hW.2.2.2.1 hDl h.1.1 hm (by simpa using hk)).mono fun e w' ⟨he, ho⟩ => ⟨he, StepOk.rowed h hb hx ho⟩
  · exact (rowed_none x.kd x.on x.oa x.ob x.d0 x.d1 x.d2 x.d3 x.q0 x.q1 x.q2 x.q3 x.s4 x.s5 x.s18 x.s19 x.k p.c T p.tb p.rb wb W hT hm).mono fun e w' ⟨he, ho⟩ => ⟨he, StepOk.below h (Ext.trans hb ho) (fun e => hx e.1)⟩
theorem call_decided (x : DOp) {wb B : Nat} {vl vd : Value} {Ps : List DPair} {Ds : List DSl} {w : World} (h : St wb B vl vd Ps Ds w) {p : DPair} (hp : p ∈ Ps) (hDl : (Ds.length + 4) * 24 ≤ 140737488355328) (hx : ¬ x.kd = 3) (W : World) (hb : Below w.heap.size w W) :
    Calls Tryz.prog 52 #[.pointer (some ⟨wb, 0, none⟩), .agg #[.pointer (some ⟨p.tb, 0, none⟩), .pointer (some ⟨p.rb, 0, none⟩)], .agg #[.int .i64 x.kd, .int .i64 x.on, .int .i64 x.oa, .int .i64 x.ob, .slice x.s4.a x.s4.n x.s4.c, .slice x.s5.a x.s5.n x.s5.c, .int .i64 x.k.src, .int .i64 x.k.dst, .int .i64 x.k.proto, .int .i64 x.k.port, .int .i64 x.d0, .int .i64 x.d1, .int .i64 x.d2, .int .i64 x.d3, .int .i64 x.q0, .int .i64 x.q1, .int .i64 x.q2, .int .i64 x.q3, .slice x.s18.a x.s18.n x.s18.c, .slice x.s19.a x.s19.n x.s19.c]] W fun e w' => e = .returned (.bool true) ∧ StepOk x wb B vl vd Ps Ds w w' := by
  have hW := h.grow hb
  obtain ⟨hc, ⟨T, hT⟩, pa, qa, pc, qc, r0, r1, hP, hQ⟩ := hW.pair hp
  obtain ⟨l1, l2⟩ := right_lens (h.2.2.2.2.1 p hp).1
  by_cases hm : (x.oa, x.ob) ∈ plist
  · by_cases hk : pktOk x.k = true
    · exact (decided_any x.kd x.on x.oa x.ob x.d0 x.d1 x.d2 x.d3 x.q0 x.q1 x.q2 x.q3 x.s4 x.s5 x.s18 x.s19 x.k p.c T p.tb p.rb pa qa pc qc W hT r0 r1 hP hQ hc l1 l2 wb B vl vd Ds hW.2.1 hW.2.2.2.1 hDl h.1.1 hm hk).mono fun e w' ⟨he, ho⟩ => ⟨he, StepOk.rowed h hb hx ho⟩
    · exact (decided_bad x.kd x.on x.oa x.ob x.d0 x.d1 x.d2 x.d3 x.q0 x.q1 x.q2 x.q3 x.s4 x.s5 x.s18 x.s19 x.k p.c T p.tb p.rb wb W hT hm (by simpa using hk)).mono fun e w' ⟨he, ho⟩ => ⟨he, StepOk.below h (Ext.trans hb ho) (fun e => hx e.1)⟩
  · exact (decided_none x.kd x.on x.oa x.ob x.d0 x.d1 x.d2 x.d3 x.q0 x.q1 x.q2 x.q3 x.s4 x.s5 x.s18 x.s19 x.k p.c T p.tb p.rb wb W hT hm).mono fun e w' ⟨he, ho⟩ => ⟨he, StepOk.below h (Ext.trans hb ho) (fun e => hx e.1)⟩
theorem call_admitted (x : DOp) {wb B : Nat} {vl vd : Value} {Ps : List DPair} {Ds : List DSl} {w : World} (h : St wb B vl vd Ps Ds w) {p : DPair} (hp : p ∈ Ps) (hx : ¬ x.kd = 3) (W : World) (hb : Below w.heap.size w W) :
    Calls Tryz.prog 53 #[.agg #[.pointer (some ⟨p.tb, 0, none⟩), .pointer (some ⟨p.rb, 0, none⟩)], .agg #[.int .i64 x.kd, .int .i64 x.on, .int .i64 x.oa, .int .i64 x.ob, .slice x.s4.a x.s4.n x.s4.c, .slice x.s5.a x.s5.n x.s5.c, .int .i64 x.k.src, .int .i64 x.k.dst, .int .i64 x.k.proto, .int .i64 x.k.port, .int .i64 x.d0, .int .i64 x.d1, .int .i64 x.d2, .int .i64 x.d3, .int .i64 x.q0, .int .i64 x.q1, .int .i64 x.q2, .int .i64 x.q3, .slice x.s18.a x.s18.n x.s18.c, .slice x.s19.a x.s19.n x.s19.c]] W fun e w' => e = .returned (.bool true) ∧ StepOk x wb B vl vd Ps Ds w w' := by
  have hW := h.grow hb
  obtain ⟨hc, ⟨T, hT⟩, pa, qa, pc, qc, r0, r1, hP, hQ⟩ := hW.pair hp
  have hr := (h.2.2.2.2.1 p hp).1
  by_cases hk : pktOk x.k = true
  · exact (admitted_any x.kd x.on x.oa x.ob x.d0 x.d1 x.d2 x.d3 x.q0 x.q1 x.q2 x.q3 x.s4 x.s5 x.s18 x.s19 x.k p.c T p.tb p.rb pa qa pc qc W hT r0 r1 hP hQ hc hr hk).mono fun e w' ⟨he, ho⟩ => ⟨he, StepOk.below h (Ext.trans hb ho) (fun e => hx e.1)⟩
  · exact (admitted_bad x.kd x.on x.oa x.ob x.d0 x.d1 x.d2 x.d3 x.q0 x.q1 x.q2 x.q3 x.s4 x.s5 x.s18 x.s19 x.k p.tb p.rb W (by simpa using hk)).mono fun e w' ⟨he, ho⟩ => ⟨he, StepOk.below h (Ext.trans hb ho) (fun e => hx e.1)⟩
theorem St.at {wb B : Nat} {vl vd : Value} {Ps : List DPair} {Ds : List DSl} {w : World} (h : St wb B vl vd Ps Ds w) {j : Nat} {p : DPair} (hj : Ps[j]? = some p) :
    ∃ g lc, vl = .slice (some ⟨g, 0, none⟩) Ps.length lc ∧ w.cell? ⟨g, j * 2, none⟩ = some (.pointer (some ⟨p.tb, 0, none⟩)) ∧ w.cell? ⟨g, j * 2 + 1, none⟩ = some (.pointer (some ⟨p.rb, 0, none⟩)) := by
  obtain ⟨la, lc, hvl, _, hcell⟩ := own_slice h.2.2.1
  have hj2 : (Ps.map DPair.at)[j]? = some (p.tb, p.rb) := by rw [List.getElem?_map, hj]; rfl
  have k0 := oflat_get (k := 2) (enc := encPair) (fun _ => rfl) _ j _ 0 hj2 (by decide)
  have k1 := oflat_get (k := 2) (enc := encPair) (fun _ => rfl) _ j _ 1 hj2 (by decide)
  obtain ⟨b, hb, _, _, c0⟩ := hcell _ _ (k0.trans rfl)
  obtain ⟨b', hb', _, _, c1⟩ := hcell _ _ (k1.trans rfl)
  subst hb
  cases hb'
  exact ⟨b, lc, by rw [hvl, List.length_map], c0, c1⟩
theorem St.none {wb B : Nat} {vl vd : Value} {Ps : List DPair} {Ds : List DSl} {w : World} (h : St wb B vl vd Ps Ds w) (hP : Ps = []) : ∃ la lc, w.cell? ⟨wb, 0, none⟩ = some (.slice la 0 lc) := by
  obtain ⟨la, lc, hvl, _, _⟩ := own_slice h.2.2.1
  refine ⟨la, lc, ?_⟩
  rw [(blk_cell h.2.1 0).trans rfl]
  show some vl = _
  rw [hvl, hP]; rfl
set_option maxRecDepth 100000 in
set_option maxHeartbeats 2000000 in
theorem step_any (x : DOp) {wb B : Nat} {vl vd : Value} {Ps : List DPair} {Ds : List DSl} {w : World} (h : St wb B vl vd Ps Ds w) (ho : okOp w.heap.size w x) (hon : i64 x.on) (hk : x.kd ≤ 6) (hPl : (Ps.length + 1) * 16 ≤ 140737488355328) (hDl : (Ds.length + 4) * 24 ≤ 140737488355328) :
    Calls Tryz.prog 30 #[.pointer (some ⟨wb, 0, none⟩), .agg #[.int .i64 x.kd, .int .i64 x.on, .int .i64 x.oa, .int .i64 x.ob, .slice x.s4.a x.s4.n x.s4.c, .slice x.s5.a x.s5.n x.s5.c, .int .i64 x.k.src, .int .i64 x.k.dst, .int .i64 x.k.proto, .int .i64 x.k.port, .int .i64 x.d0, .int .i64 x.d1, .int .i64 x.d2, .int .i64 x.d3, .int .i64 x.q0, .int .i64 x.q1, .int .i64 x.q2, .int .i64 x.q3, .slice x.s18.a x.s18.n x.s18.c, .slice x.s19.a x.s19.n x.s19.c]] w fun e w' => e = .returned (.bool true) ∧ StepOk x wb B vl vd Ps Ds w w' := by
  obtain ⟨kd, on, oa, ob, ⟨pa, pn, pc⟩, ⟨qa, qn, qc⟩, k, d0, d1, d2, d3, q0, q1, q2, q3, s18, s19, c, outs, ins⟩ := x
  obtain ⟨⟨e4, e5, _, _⟩, hp, hq, _, _⟩ := ho
  simp only at e4 e5 hp hq hk hon
  subst e4 e5
  by_cases h1 : kd = 1
  · subst h1
    exact step_one on oa ob d0 d1 d2 d3 q0 q1 q2 q3 ⟨pa, c.pods.length, pc⟩ ⟨qa, c.pols.length, qc⟩ s18 s19 k wb w _ (hid fun W hb => (plain_one on oa ob d0 d1 d2 d3 q0 q1 q2 q3 s18 s19 k c pa qa pc qc W (rdPods.to hp hb) (rdPols.to hq hb)).mono fun e w' ⟨he, ho⟩ => ⟨he, StepOk.below h (Ext.trans hb ho) (fun e => by cases e.1)⟩)
  by_cases h2 : kd = 2
  · subst h2
    exact step_two on oa ob d0 d1 d2 d3 q0 q1 q2 q3 ⟨pa, c.pods.length, pc⟩ ⟨qa, c.pols.length, qc⟩ s18 s19 k wb w _ (hid fun W hb => (plain_two on oa ob d0 d1 d2 d3 q0 q1 q2 q3 s18 s19 c k pa qa pc qc W (rdPods.to hp hb) (rdPols.to hq hb)).mono fun e w' ⟨he, ho⟩ => ⟨he, StepOk.below h (Ext.trans hb ho) (fun e => by cases e.1)⟩)
  by_cases h3 : kd = 3
  · subst h3
    refine step_three on oa ob d0 d1 d2 d3 q0 q1 q2 q3 ⟨pa, c.pods.length, pc⟩ ⟨qa, c.pols.length, qc⟩ s18 s19 k wb w _ (hid fun W hb => ?_)
    by_cases hr : (right c).1 = 0
    · have hW := h.grow hb
      exact (compiled_own wb B vl vd (Ps.map DPair.at) c pa qa pc qc W (rdPods.to hp hb) (rdPols.to hq hb) hr hW.2.1 hW.2.2.1 h.1.1 (by rw [List.length_map]; exact hPl)).mono fun e w' ⟨he, ho⟩ => ⟨he, StepOk.compiled h hb hr ho⟩
    · exact (compiled_err wb c pa qa pc qc W (rdPods.to hp hb) (rdPols.to hq hb) hr).mono fun e w' ⟨he, ho⟩ => ⟨he, StepOk.below h (Ext.trans hb ho) (fun e => hr e.2)⟩
  by_cases hP : Ps = []
  · obtain ⟨la, lc, hl⟩ := h.none hP
    exact (step_empty on oa ob d0 d1 d2 d3 q0 q1 q2 q3 ⟨pa, c.pods.length, pc⟩ ⟨qa, c.pols.length, qc⟩ s18 s19 k kd wb la lc w h1 h2 h3 hl).mono fun e w' ⟨he, ho⟩ => ⟨he, StepOk.below h ho (fun e => h3 e.1)⟩
  have hn : 0 < Ps.length := List.length_pos_iff.2 hP
  obtain ⟨z0, z1⟩ := pk_in (c := on) (n := (Ps.length : Int)) (by omega)
  obtain ⟨j, hj⟩ : ∃ j : Nat, pk on (Ps.length : Int) = (j : Int) := ⟨(pk on (Ps.length : Int)).toNat, by omega⟩
  have hjl : j < Ps.length := by omega
  obtain ⟨p, hpj⟩ : ∃ p, Ps[j]? = some p := ⟨Ps[j], List.getElem?_eq_getElem hjl⟩
  have hmem := List.mem_of_getElem? hpj
  obtain ⟨g, lc, hvl, c0, c1⟩ := h.at hpj
  have hl : w.cell? ⟨wb, 0, none⟩ = some (.slice (some ⟨g, 0, none⟩) Ps.length lc) := by rw [(blk_cell h.2.1 0).trans rfl, ← hvl]; rfl
  by_cases h4 : kd = 4
  · subst h4
    exact step_four on oa ob d0 d1 d2 d3 q0 q1 q2 q3 ⟨pa, c.pods.length, pc⟩ ⟨qa, c.pols.length, qc⟩ s18 s19 k wb g lc Ps.length j p.tb p.rb w _ (by omega) hjl hon hj hl c0 c1 (hid fun W hb => call_rowed _ h hmem hDl (show ¬ (4 : Int) = 3 by decide) W hb)
  by_cases h5 : kd = 5
  · subst h5
    exact step_five on oa ob d0 d1 d2 d3 q0 q1 q2 q3 ⟨pa, c.pods.length, pc⟩ ⟨qa, c.pols.length, qc⟩ s18 s19 k wb g lc Ps.length j p.tb p.rb w _ (by omega) hjl hon hj hl c0 c1 (hid fun W hb => call_decided _ h hmem hDl (show ¬ (5 : Int) = 3 by decide) W hb)
  by_cases h6 : kd = 6
  · subst h6
    exact step_six on oa ob d0 d1 d2 d3 q0 q1 q2 q3 ⟨pa, c.pods.length, pc⟩ ⟨qa, c.pols.length, qc⟩ s18 s19 k wb g lc Ps.length j p.tb p.rb w _ (by omega) hjl hon hj hl c0 c1 (hid fun W hb => call_admitted _ h hmem (show ¬ (6 : Int) = 3 by decide) W hb)
  refine step_else on oa ob d0 d1 d2 d3 q0 q1 q2 q3 ⟨pa, c.pods.length, pc⟩ ⟨qa, c.pols.length, qc⟩ s18 s19 k kd wb g lc Ps.length j p.tb p.rb w _ h1 h2 h3 h4 h5 h6 (by omega) hjl hon hj hl c0 c1 (hid fun W hb => ?_)
  exact (changes_other on oa ob d0 d1 d2 d3 q0 q1 q2 q3 ⟨pa, c.pods.length, pc⟩ ⟨qa, c.pols.length, qc⟩ s18 s19 k kd p.tb p.rb W (by omega) (by omega) (by omega) (by omega)).mono fun e w' ⟨he, ho⟩ => ⟨he, StepOk.below h (Ext.trans hb ho) (fun e => h3 e.1)⟩
set_option maxRecDepth 100000 in
set_option maxHeartbeats 2000000 in
theorem refDropPod_none (ip : Int) (rb : Nat) (l : List DPod) (pa qa : Option Addr) (pc qn qc : Nat) (w : World) (ht : w.heap[rb]? = some (.cells #[.slice pa l.length pc, .slice qa qn qc] 144 (0, 0))) (hp : rdPods w.heap.size w pa l) (hn : ixOf l ip < 0) :
    Calls Tryz.prog 85 #[.pointer (some ⟨rb, 0, none⟩), .int .i64 ip] w fun e w' => e = .returned (.int .i64 6) ∧ Below w.heap.size w w' := by
  have HAT := hid (refAt_any l ip pa qa pc qn qc w hp)
  have t0 : w.cell? ⟨rb, 0, none⟩ = some (.slice pa l.length pc) := (blk_cell ht 0).trans rfl
  have t1 : w.cell? ⟨rb, 1, none⟩ = some (.slice qa qn qc) := (blk_cell ht 1).trans rfl
  clear hp ht
  go_enter Tryz.func85, Tryz.ntmps85
  go_wp2_with fail
  refine HAT.out.mono ?_
  rintro e w1 ⟨rfl, hb1⟩
  have HB := hid hb1
  clear hb1
  generalize ixOf l ip = k at hn ⊢
  go_wp2
  go_ret
  exact ⟨rfl, HB.out⟩
set_option maxRecDepth 100000 in
set_option maxHeartbeats 2000000 in
theorem refDropPol_none (i : Int) (rb : Nat) (pa qa : Option Addr) (pn pc qn qc : Nat) (w : World) (ht : w.heap[rb]? = some (.cells #[.slice pa pn pc, .slice qa qn qc] 144 (0, 0))) (hn : ¬ (0 ≤ i ∧ i < qn)) :
    Calls Tryz.prog 89 #[.pointer (some ⟨rb, 0, none⟩), .int .i64 i] w fun e w' => e = .returned (.int .i64 6) ∧ Below w.heap.size w w' := by
  have t0 : w.cell? ⟨rb, 0, none⟩ = some (.slice pa pn pc) := (blk_cell ht 0).trans rfl
  have t1 : w.cell? ⟨rb, 1, none⟩ = some (.slice qa qn qc) := (blk_cell ht 1).trans rfl
  clear ht
  rcases Classical.em (i < 0) with h0 | h0
  · clear hn
    go_enter Tryz.func89, Tryz.ntmps89
    go_wp2
    go_ret
    exact ⟨rfl, Below.refl _ _⟩
  · have h1 : (qn : Int) ≤ i := by omega
    have h2 : i ≥ (qn : Int) := h1
    clear hn
    go_enter Tryz.func89, Tryz.ntmps89
    go_wp2
    go_ret
    exact ⟨rfl, Below.refl _ _⟩
end Go.Proofs.YtmkjlhplgcifiaaGreat
namespace Go.Proofs.YtmkjlhplgcifiaaGreat
open Go.ChangeShapes Go.WideShapes Go.ChangeAt Go.RowKit
set_option linter.unusedVariables false
set_option linter.unusedSimpArgs false
attribute [local simp] World.cell?_grow World.cell?_alloc_there
attribute [local go_sem] World.cell?_grow World.cell?_alloc_there eqg_blk std_blk eqg_pod std_pod eqg_sel std_sel eqg_prt std_prt
attribute [local go_sem ↓] eql_blk eql_sel neq_sel eql_prt eql_pod met_in1 met_in2 met_re1 met_re2 met_has1 met_has2 met_bl1 met_bl2
def eCells {X : Type} (enc : X → List Value) (_B : Nat) (w : World) (b o : Nat) (x : X) : Prop := ∀ j u, (enc x)[j]? = some u → w.cell? ⟨b, o + j, none⟩ = some u
theorem cells_to {X : Type} {enc : X → List Value} {B k bytes : Nat} {w w' : World} {a : Option Addr} {l : List X} (h : RdSl w.heap.size w k bytes (eCells enc) a l) (hb : Below w.heap.size w w') (hB : w.heap.size ≤ B) : RdSl B w' k bytes (eCells enc) a l :=
  RdSl.ext h hB fun b o x hl he j u hj => by rw [hb.cell (p := ⟨b, o + j, none⟩) hl]; exact he j u hj
theorem own_room {w : World} {base g cap size : Nat} {e : TypeId} {cur : Array Value} (hg : w.heap[g]? = some (.cells cur e (0, 0))) (hb : base ≤ g) (hc : cap ≤ maxLen) (hs : cur.size = cap * size) : w.ownsRow base e size (.slice (some ⟨g, 0, none⟩) 0 cap) 0 [] :=
  ⟨by simp, .inr ⟨g, cap, cur, rfl, hb, hg, Nat.zero_le _, hc, hs, by simp⟩⟩
def CatAt (w : World) (l m : Nat) (sz i : Value) (wr : World) : Prop := wr = w ∧ ((i = .int .i64 0 ∧ sz = .int .i64 0) ∨ (i = .int .i64 1 ∧ sz = .int .i64 (l : Int)) ∨ (i = .int .i64 2 ∧ sz = .int .i64 ((l : Int) + (m : Int))))
def CatOwn {X : Type} (w : World) (T : TypeId) (k : Nat) (enc : X → List Value) (l m : List X) (v i : Value) (wr : World) : Prop :=
  Below w.heap.size w wr ∧ ((i = .int .i64 0 ∧ wr.ownsRow w.heap.size T k v 0 []) ∨ (i = .int .i64 1 ∧ wr.ownsRow w.heap.size T k v l.length (l.flatMap enc)) ∨ (i = .int .i64 2 ∧ wr.ownsRow w.heap.size T k v (l ++ m).length ((l ++ m).flatMap enc)))
set_option maxRecDepth 100000 in
set_option maxHeartbeats 2000000 in
theorem growPod (n : Nat) (w : World) (hn : n ≤ 1000) :
    Calls Tryz.prog 71 #[.slice none 0 0, .int .i64 (n : Int)] w fun e w' => ∃ v, e = .returned v ∧ w'.ownsRow w.heap.size 54 4 v 0 [] ∧ Below w.heap.size w w' := by
  obtain ⟨i0, hi, iz0, iz1, iz2⟩ := info_parts info_pod
  have h1 : ¬ ((n : Int) < 0) := by omega
  by_cases h0 : n = 0
  · subst h0
    go_enter Tryz.func71, Tryz.ntmps71
    go_wp2
    go_ret
    exact ⟨_, rfl, World.ownsRow_nil _ _ _ _, Below.refl _ _⟩
  · have h4 : (n : Int) > 0 := by omega
    have hw : wrap64 (n : Int) = n := by unfold wrap64; omega
    have hrz := fun ty => Lib.run_append_nil_zeros (P := Tryz.prog) w 25 3 ty 54 i0 _ .i64 .i64 Tryz.underlying25 Tryz.underlying3 hi iz0 n (by omega) (by rw [iz1]; decide) (by omega) (by rw [iz2]; omega)
    have hGn : n ≤ grownCap w n 0 54 := grownCap_ge w _ _ _
    have hGm : grownCap w n 0 54 ≤ maxLen := grownCap_le_maxLen w n 0 54 (by unfold maxLen; omega)
    obtain ⟨G, hG⟩ : ∃ G, G = grownCap w n 0 54 := ⟨_, rfl⟩
    rw [← hG] at hrz hGn hGm
    have hG63 : G ≤ 9223372036854775807 := by unfold maxLen at hGm; omega
    clear hG
    go_enter Tryz.func71, Tryz.ntmps71
    go_wp2_with (at_builtin; refine Lib.wpList_append_run _ rfl _ _ _ _ rfl _ _ rfl rfl _ _ (hrz _) ?_)
    go_ret
    exact ⟨_, rfl, own_room (g := w.heap.size) (new_heap w _) (Nat.le_refl _) hGm (by simp [Builtin.zeroCells]; omega), bel⟩
set_option maxRecDepth 100000 in
set_option maxHeartbeats 4000000 in
theorem concatPod (l m : List DPod) (a b : Option Addr) (ca cb sb : Nat) (w : World) (hl : RdSl w.heap.size w 4 32 (eCells encPod) a l) (hm : RdSl w.heap.size w 4 32 (eCells encPod) b m) (hll : l.length ≤ 100) (hml : m.length ≤ 100) (h1 : ∀ u ∈ l.flatMap encPod, u.oneCell' = true) (h2 : ∀ u ∈ m.flatMap encPod, u.oneCell' = true)
    (s0 : w.cell? ⟨sb, 0, none⟩ = some (.slice a l.length ca)) (s1 : w.cell? ⟨sb, 1, none⟩ = some (.slice b m.length cb)) :
    Calls Tryz.prog 45 #[.slice (some ⟨sb, 0, none⟩) 2 2] w fun e w' => ∃ v, e = .returned v ∧ w'.ownsRow w.heap.size 54 4 v (l ++ m).length ((l ++ m).flatMap encPod) ∧ Below w.heap.size w w' := by
  obtain ⟨i0, hi, iz0, iz1, iz2⟩ := info_parts info_pod
  have HL := hid hl
  have HM := hid hm
  have H1 := hid h1
  have H2 := hid h2
  clear hl hm h1 h2
  have zl : ¬ ((l.length : Int) < 0) := by omega
  have zlm : ¬ ((l.length : Int) + (m.length : Int) < 0) := by omega
  go_enter Tryz.func45, Tryz.ntmps45
  go_wp2_with fail
  go_loopw [3, 11] (fun sz i wr => CatAt w l.length m.length sz i wr) (fun _ i _ => 2 - (intOf i).toNat)
  case atStart => exact ⟨rfl, .inl ⟨rfl, rfl⟩⟩
  case round =>
    obtain ⟨rfl, ⟨rfl, rfl⟩ | ⟨rfl, rfl⟩ | ⟨rfl, rfl⟩⟩ := hrel
    · go_wp2
      exact ⟨⟨rfl, .inr (.inl ⟨by go_num, by go_num⟩)⟩, by simp [intOf]⟩
    · go_wp2
      exact ⟨⟨rfl, .inr (.inr ⟨by go_num, by go_num⟩)⟩, by simp [intOf]⟩
    · obtain ⟨wk, hwk⟩ : ∃ wk, wk = wr := ⟨_, rfl⟩
      subst hwk
      have hG := growPod (l.length + m.length) wk (by omega)
      rw [Int.natCast_add] at hG
      have HG := hid hG
      clear hG
      go_wp2_with (go_at_call 71; refine HG.out.mono ?_; rintro e w1 ⟨v, rfl, ho, hb1⟩; have HO := hid ho; have HB := hid hb1; clear ho hb1)
      go_loopw [6, 27] (fun v i wx => CatOwn wk 54 4 encPod l m v i wx) (fun _ i _ => 2 - (intOf i).toNat)
      case atStart => exact ⟨HB.out, .inl ⟨rfl, HO.out⟩⟩
      case round =>
        obtain ⟨hbx, ⟨rfl, hox⟩ | ⟨rfl, hox⟩ | ⟨rfl, hox⟩⟩ := hrel
        · have HOX := hid hox
          have HBX := hid hbx
          have x0 := cell_to s0 hbx
          clear hox hbx
          go_wp2_with (at_builtin; go_must (refine wpList_append_list _ rfl _ _ 25 rfl wk.heap.size 54 i0 _ 4 32 Tryz.underlying25 hi iz0 iz1 iz2 rfl (by decide) _ 0 [] rfl HOX.out a _ ca (l.flatMap encPod) rfl (oflat_len (k := 4) (fun _ => rfl) _) (news_of (k := 4) (fun _ => rfl) (by decide) (cells_to HL.out HBX.out HBX.out.size) (fun _ _ _ h => h)) H1.out (by unfold maxLen; omega) (by omega) HBX.out.size ?_); intro v' w3 hown' hg3)
          refine ⟨⟨own_below HBX.out HBX.out.size HOX.out hg3, .inr (.inl ⟨by go_num, ?_⟩)⟩, by simp [intOf]⟩
          simpa using hown'
        · have HOX := hid hox
          have HBX := hid hbx
          have x1 := cell_to s1 hbx
          clear hox hbx
          go_wp2_with (at_builtin; go_must (refine wpList_append_list _ rfl _ _ 25 rfl wk.heap.size 54 i0 _ 4 32 Tryz.underlying25 hi iz0 iz1 iz2 rfl (by decide) _ l.length (l.flatMap encPod) rfl HOX.out b _ cb (m.flatMap encPod) rfl (oflat_len (k := 4) (fun _ => rfl) _) (news_of (k := 4) (fun _ => rfl) (by decide) (cells_to HM.out HBX.out HBX.out.size) (fun _ _ _ h => h)) H2.out (by unfold maxLen; omega) (by omega) HBX.out.size ?_); intro v' w3 hown' hg3)
          refine ⟨⟨own_below HBX.out HBX.out.size HOX.out hg3, .inr (.inr ⟨by go_num, ?_⟩)⟩, by simp [intOf]⟩
          rw [List.length_append, List.flatMap_append]
          exact hown'
        · have HOX := hid hox
          have HBX := hid hbx
          clear hox hbx
          go_wp2
          go_ret
          exact ⟨_, rfl, HOX.out, HBX.out⟩
set_option maxRecDepth 100000 in
set_option maxHeartbeats 2000000 in
theorem growPol (n : Nat) (w : World) (hn : n ≤ 1000) :
    Calls Tryz.prog 72 #[.slice none 0 0, .int .i64 (n : Int)] w fun e w' => ∃ v, e = .returned v ∧ w'.ownsRow w.heap.size 59 6 v 0 [] ∧ Below w.heap.size w w' := by
  obtain ⟨i0, hi, iz0, iz1, iz2⟩ := info_parts info_pol
  have h1 : ¬ ((n : Int) < 0) := by omega
  by_cases h0 : n = 0
  · subst h0
    go_enter Tryz.func72, Tryz.ntmps72
    go_wp2
    go_ret
    exact ⟨_, rfl, World.ownsRow_nil _ _ _ _, Below.refl _ _⟩
  · have h4 : (n : Int) > 0 := by omega
    have hw : wrap64 (n : Int) = n := by unfold wrap64; omega
    have hrz := fun ty => Lib.run_append_nil_zeros (P := Tryz.prog) w 26 3 ty 59 i0 _ .i64 .i64 Tryz.underlying26 Tryz.underlying3 hi iz0 n (by omega) (by rw [iz1]; decide) (by omega) (by rw [iz2]; omega)
    have hGn : n ≤ grownCap w n 0 59 := grownCap_ge w _ _ _
    have hGm : grownCap w n 0 59 ≤ maxLen := grownCap_le_maxLen w n 0 59 (by unfold maxLen; omega)
    obtain ⟨G, hG⟩ : ∃ G, G = grownCap w n 0 59 := ⟨_, rfl⟩
    rw [← hG] at hrz hGn hGm
    have hG63 : G ≤ 9223372036854775807 := by unfold maxLen at hGm; omega
    clear hG
    go_enter Tryz.func72, Tryz.ntmps72
    go_wp2_with (at_builtin; refine Lib.wpList_append_run _ rfl _ _ _ _ rfl _ _ rfl rfl _ _ (hrz _) ?_)
    go_ret
    exact ⟨_, rfl, own_room (g := w.heap.size) (new_heap w _) (Nat.le_refl _) hGm (by simp [Builtin.zeroCells]; omega), bel⟩
set_option maxRecDepth 100000 in
set_option maxHeartbeats 4000000 in
theorem concatPol (l m : List RPol) (a b : Option Addr) (ca cb sb : Nat) (w : World) (hl : RdSl w.heap.size w 6 80 (eCells encPol) a l) (hm : RdSl w.heap.size w 6 80 (eCells encPol) b m) (hll : l.length ≤ 100) (hml : m.length ≤ 100) (h1 : ∀ u ∈ l.flatMap encPol, u.oneCell' = true) (h2 : ∀ u ∈ m.flatMap encPol, u.oneCell' = true)
    (s0 : w.cell? ⟨sb, 0, none⟩ = some (.slice a l.length ca)) (s1 : w.cell? ⟨sb, 1, none⟩ = some (.slice b m.length cb)) :
    Calls Tryz.prog 47 #[.slice (some ⟨sb, 0, none⟩) 2 2] w fun e w' => ∃ v, e = .returned v ∧ w'.ownsRow w.heap.size 59 6 v (l ++ m).length ((l ++ m).flatMap encPol) ∧ Below w.heap.size w w' := by
  obtain ⟨i0, hi, iz0, iz1, iz2⟩ := info_parts info_pol
  have HL := hid hl
  have HM := hid hm
  have H1 := hid h1
  have H2 := hid h2
  clear hl hm h1 h2
  have zl : ¬ ((l.length : Int) < 0) := by omega
  have zlm : ¬ ((l.length : Int) + (m.length : Int) < 0) := by omega
  go_enter Tryz.func47, Tryz.ntmps47
  go_wp2_with fail
  go_loopw [3, 11] (fun sz i wr => CatAt w l.length m.length sz i wr) (fun _ i _ => 2 - (intOf i).toNat)
  case atStart => exact ⟨rfl, .inl ⟨rfl, rfl⟩⟩
  case round =>
    obtain ⟨rfl, ⟨rfl, rfl⟩ | ⟨rfl, rfl⟩ | ⟨rfl, rfl⟩⟩ := hrel
    · go_wp2
      exact ⟨⟨rfl, .inr (.inl ⟨by go_num, by go_num⟩)⟩, by simp [intOf]⟩
    · go_wp2
      exact ⟨⟨rfl, .inr (.inr ⟨by go_num, by go_num⟩)⟩, by simp [intOf]⟩
    · obtain ⟨wk, hwk⟩ : ∃ wk, wk = wr := ⟨_, rfl⟩
      subst hwk
      have hG := growPol (l.length + m.length) wk (by omega)
      rw [Int.natCast_add] at hG
      have HG := hid hG
      clear hG
      go_wp2_with (go_at_call 72; refine HG.out.mono ?_; rintro e w1 ⟨v, rfl, ho, hb1⟩; have HO := hid ho; have HB := hid hb1; clear ho hb1)
      go_loopw [6, 27] (fun v i wx => CatOwn wk 59 6 encPol l m v i wx) (fun _ i _ => 2 - (intOf i).toNat)
      case atStart => exact ⟨HB.out, .inl ⟨rfl, HO.out⟩⟩
      case round =>
        obtain ⟨hbx, ⟨rfl, hox⟩ | ⟨rfl, hox⟩ | ⟨rfl, hox⟩⟩ := hrel
        · have HOX := hid hox
          have HBX := hid hbx
          have x0 := cell_to s0 hbx
          clear hox hbx
          go_wp2_with (at_builtin; go_must (refine wpList_append_list _ rfl _ _ 26 rfl wk.heap.size 59 i0 _ 6 80 Tryz.underlying26 hi iz0 iz1 iz2 rfl (by decide) _ 0 [] rfl HOX.out a _ ca (l.flatMap encPol) rfl (oflat_len (k := 6) (fun _ => rfl) _) (news_of (k := 6) (fun _ => rfl) (by decide) (cells_to HL.out HBX.out HBX.out.size) (fun _ _ _ h => h)) H1.out (by unfold maxLen; omega) (by omega) HBX.out.size ?_); intro v' w3 hown' hg3)
          refine ⟨⟨own_below HBX.out HBX.out.size HOX.out hg3, .inr (.inl ⟨by go_num, ?_⟩)⟩, by simp [intOf]⟩
          simpa using hown'
        · have HOX := hid hox
          have HBX := hid hbx
          have x1 := cell_to s1 hbx
          clear hox hbx
          go_wp2_with (at_builtin; go_must (refine wpList_append_list _ rfl _ _ 26 rfl wk.heap.size 59 i0 _ 6 80 Tryz.underlying26 hi iz0 iz1 iz2 rfl (by decide) _ l.length (l.flatMap encPol) rfl HOX.out b _ cb (m.flatMap encPol) rfl (oflat_len (k := 6) (fun _ => rfl) _) (news_of (k := 6) (fun _ => rfl) (by decide) (cells_to HM.out HBX.out HBX.out.size) (fun _ _ _ h => h)) H2.out (by unfold maxLen; omega) (by omega) HBX.out.size ?_); intro v' w3 hown' hg3)
          refine ⟨⟨own_below HBX.out HBX.out.size HOX.out hg3, .inr (.inr ⟨by go_num, ?_⟩)⟩, by simp [intOf]⟩
          rw [List.length_append, List.flatMap_append]
          exact hown'
        · have HOX := hid hox
          have HBX := hid hbx
          clear hox hbx
          go_wp2
          go_ret
          exact ⟨_, rfl, HOX.out, HBX.out⟩
end Go.Proofs.YtmkjlhplgcifiaaGreat
