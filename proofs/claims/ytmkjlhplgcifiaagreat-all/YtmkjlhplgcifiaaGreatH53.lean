/-
  palisadelaw: the four changes, over the state of a script's world.
-/
import Derived.Test.YtmkjlhplgcifiaaGreatH51
import Derived.Test.YtmkjlhplgcifiaaGreatH52
import Derived.Test.YtmkjlhplgcifiaaGreatH47
import Derived.Test.YtmkjlhplgcifiaaGreatH12
import Derived.Test.YtmkjlhplgcifiaaGreatH09
namespace Go.Proofs.YtmkjlhplgcifiaaGreat
open Go.ChangeShapes Go.WideShapes Go.ChangeAt Go.RowKit
set_option linter.unusedVariables false
set_option linter.unusedSimpArgs false
attribute [local simp] World.cell?_grow World.cell?_alloc_there
attribute [local go_sem] World.cell?_grow World.cell?_alloc_there eqg_blk std_blk eqg_pod std_pod eqg_sel std_sel eqg_prt std_prt eqg_row std_row
attribute [local go_sem ↓] eql_blk eql_sel neq_sel eql_prt eql_pod met_in1 met_in2 met_re1 met_re2 met_has1 met_has2 met_bl1 met_bl2 neq_row
theorem PairOk.tabs {B : Nat} {w : World} {G : Nat → Bool} {p : DPair} (h : PairOk B w G p) : ∃ pa qa pc qc u2, w.heap[p.tb]? = some (.cells #[.slice pa p.c.pods.length pc, .slice qa p.c.pols.length qc, u2] 94 (0, 0)) ∧ rdPods w.heap.size w pa p.c.pods ∧ rdPols w.heap.size w qa p.c.pols ∧ p.c.pods.length ≤ pc ∧ p.c.pols.length ≤ qc := by
  obtain ⟨h0, u0, u1, u2, h1, h2, h3, h4⟩ := h
  obtain ⟨r, vs, pa, qa, pc, qc, e0, e1, e2, _, l1, l2, k1, k2, _⟩ := h3.sub (BSub.show w G) (Nat.le_refl _)
  subst e0 e1 e2
  exact ⟨pa, qa, pc, qc, _, h1, k1, k2, l1, l2⟩
theorem Chg.keep {tb : Nat} {c' : DClu} {w w' : World} (h : Chg tb c' w w') {b : Nat} (hb : b < w.heap.size) (hne : b ≠ tb) : w'.heap[b]? = w.heap[b]? := by
  by_cases hr : (right c').1 = 0
  · exact (h.1 hr).2.block b hb (ne_some hne)
  · exact (h.2 hr).block b hb
theorem Chg.size {tb : Nat} {c' : DClu} {w w' : World} (h : Chg tb c' w w') : w.heap.size ≤ w'.heap.size := by
  by_cases hr : (right c').1 = 0
  · exact (h.1 hr).2.size
  · exact (h.2 hr).size
theorem Chg.below {tb S : Nat} {c' : DClu} {w w' : World} (h : Chg tb c' w w') (hS : S ≤ tb) (hl : S ≤ w.heap.size) : Below S w w' := by
  by_cases hr : (right c').1 = 0
  · have hg := (h.1 hr).2
    exact ⟨hg.os, hg.tape, hg.output, hg.size, fun b hb => hg.block b (by omega) (ne_some (by omega))⟩
  · exact (h.2 hr).mono hl
theorem Chg.only {tb : Nat} {c' : DClu} {w W w1 w2 : World} {lo hi : Nat} (hb : Below w.heap.size w W) (h : Chg tb c' W w1) (htb : tb < w.heap.size) (hlo : w.heap.size ≤ lo) (hhi : hi ≤ W.heap.size) (ho : Only lo hi w1 w2) : Chg tb c' w w2 := by
  obtain ⟨⟨o1, o2, o3⟩, o4, o5⟩ := ho
  have s1 := hb.size
  have s2 := h.size
  refine ⟨fun hr => ?_, fun hr => ?_⟩
  · obtain ⟨⟨u0, u1, u2, h1, h2⟩, h3⟩ := h.1 hr
    exact ⟨⟨u0, u1, u2, (o5 tb (by omega) (by omega)).trans h1, h2.sub (BSub.hide fun b hb' hG => ⟨low_false.2 (by have := low_false.1 hG; omega), o5 b hb' (by have := low_false.1 hG; omega)⟩) o4⟩, ⟨o1.trans (h3.os.trans hb.os), o2.trans (h3.tape.trans hb.tape), o3.trans (h3.output.trans hb.output), by omega, fun k hk hne => (o5 k (by omega) (by omega)).trans ((h3.block k (by omega) hne).trans (hb.block k hk))⟩⟩
  · have h3 := h.2 hr
    exact ⟨o1.trans (h3.os.trans hb.os), o2.trans (h3.tape.trans hb.tape), o3.trans (h3.output.trans hb.output), by omega, fun k hk => (o5 k (by omega) (by omega)).trans ((h3.block k (by omega)).trans (hb.block k hk))⟩
theorem podAt_ip {l : List DPod} {ip : Int} {q : DPod} (h : podAt l ip = some q) : q.ip = ip := by
  unfold podAt at h
  simpa using List.find?_some h
theorem podAt_some {l : List DPod} {ip : Int} (h : ¬ podAt l ip = none) : 0 ≤ ixOf l ip := by
  obtain ⟨q, hq⟩ := Option.ne_none_iff_exists'.1 h
  obtain ⟨k, _, e⟩ := podAt_ix hq
  omega
theorem call_seven (x : DOp) (on oa ob d0 d1 d2 d3 q0 q1 q2 q3 : Int) (s4 s5 s18 s19 : DSl) (k : DPkt) {wb B : Nat} {vl vd : Value} {Ps : List DPair} {Ds : List DSl} {w : World} (h : St wb B vl vd Ps Ds w) {j : Nat} {p : DPair} (hj : Ps[j]? = some p) (hx : ¬ x.kd = 3) (W : World) (hb : Below w.heap.size w W) :
    Calls Tryz.prog 54 #[.agg #[.pointer (some ⟨p.tb, 0, none⟩), .pointer (some ⟨p.rb, 0, none⟩)], .agg #[.int .i64 7, .int .i64 on, .int .i64 oa, .int .i64 ob, .slice s4.a s4.n s4.c, .slice s5.a s5.n s5.c, .int .i64 k.src, .int .i64 k.dst, .int .i64 k.proto, .int .i64 k.port, .int .i64 d0, .int .i64 d1, .int .i64 d2, .int .i64 d3, .int .i64 q0, .int .i64 q1, .int .i64 q2, .int .i64 q3, .slice s18.a s18.n s18.c, .slice s19.a s19.n s19.c]] W fun e w' => e = .returned (.bool true) ∧ StepOk x wb B vl vd Ps Ds w w' := by
  have hW := h.grow hb
  have hm := List.mem_of_getElem? hj
  have hp := hW.2.2.2.2.1 p hm
  have hr := hp.1
  obtain ⟨l1, l2⟩ := right_lens hr
  have ltb := hp.lt (b := p.tb) (has_true.2 (.inl rfl))
  have hBW : B ≤ W.heap.size := by
    have := (Array.getElem?_eq_some_iff.1 hW.2.1).1
    have := h.1.1
    omega
  have hra := right_addPod hr ⟨d0, d1, d2, d3⟩
  refine changes_seven on oa ob d0 d1 d2 d3 q0 q1 q2 q3 s4 s5 s18 s19 k p.tb p.rb (right ⟨p.c.pods ++ [⟨d0, d1, d2, d3⟩], p.c.pols⟩).1 W (fun X w1 => Below W.heap.size W X ∧ Chg p.tb ⟨p.c.pods ++ [⟨d0, d1, d2, d3⟩], p.c.pols⟩ X w1) _ (hid fun X hbX => ?_) (hid fun X w1 hq => ?_)
  · obtain ⟨pa, qa, pc, qc, u2, t1, t2, t3, _, _⟩ := ((hW.grow hbX).2.2.2.2.1 p hm).tabs
    exact (addPod_any ⟨d0, d1, d2, d3⟩ p.tb u2 p.c pa qa pc qc X t1 t2 t3 hr).mono fun e w' ⟨he, hc⟩ => ⟨he, fun b h1 h2 => hc.keep h2 (by omega), hbX, hc⟩
  · obtain ⟨hbX, hc⟩ := hq
    have hpX := (hW.grow hbX).2.2.2.2.1 p hm
    obtain ⟨m1, m2, ys, m3, m4, m5⟩ := hpX.mid (w1 := w1) (fun b hb hne => hc.keep hb hne)
    have hyl : ys.length = p.c.pols.length := by rw [← m3, List.length_map]
    obtain ⟨va, vc, hv, hvc, hrd⟩ := own_pods m2 (by omega)
    obtain ⟨qa, qc, hv', hqc, _⟩ := own_slice m4
    have ht := m1
    rw [hv, hv'] at ht
    have hsX := hbX.size
    have hs1 : X.heap.size ≤ w1.heap.size := hc.size
    by_cases g1 : 8 ≤ p.c.pods.length
    · have e1 : (right ⟨p.c.pods ++ [⟨d0, d1, d2, d3⟩], p.c.pols⟩).1 = 1 := by rw [hra, if_pos g1]
      have hbl := hc.2 (by rw [e1]; decide)
      rw [e1]
      exact (refAddPod_many ⟨d0, d1, d2, d3⟩ p.rb va qa p.c.pods.length vc ys.length qc w1 ht g1).mono fun e w2 ⟨he, h2⟩ => ⟨he, StepOk.below h (Ext.trans hb (Ext.trans hbX (Ext.trans hbl h2))) fun e => hx e.1⟩
    by_cases g2 : podOk ⟨d0, d1, d2, d3⟩ = true ∧ podAt p.c.pods (⟨d0, d1, d2, d3⟩ : DPod).ip = none
    · have e1 : (right ⟨p.c.pods ++ [⟨d0, d1, d2, d3⟩], p.c.pols⟩).1 = 0 := by rw [hra, if_neg g1, if_pos g2]
      have ht2 := m1
      rw [hv'] at ht2
      rw [e1]
      refine (refAddPod_ok ⟨d0, d1, d2, d3⟩ p.rb B p.c.pods p.v qa ys.length qc w1 ht2 m2 (by omega) (by omega) g2.1 (by rw [podAt_ixn g2.2]; decide)).mono fun e w2 ⟨he, hR⟩ => ⟨he, ?_⟩
      rw [← hv'] at hR
      exact StepOk.changed h (Ext.trans hb hbX) hj hx e1 hc (RefTo.addPod m1 m2 m3 m4 m5 hR)
    · have e1 : (right ⟨p.c.pods ++ [⟨d0, d1, d2, d3⟩], p.c.pols⟩).1 = 2 := by rw [hra, if_neg g1, if_neg g2]
      have hbl := hc.2 (by rw [e1]; decide)
      rw [e1]
      by_cases g3 : podOk ⟨d0, d1, d2, d3⟩ = true
      · exact (refAddPod_taken ⟨d0, d1, d2, d3⟩ p.rb p.c.pods va qa vc ys.length qc w1 ht hrd (by omega) g3 (podAt_some fun e => g2 ⟨g3, e⟩)).mono fun e w2 ⟨he, h2⟩ => ⟨he, StepOk.below h (Ext.trans hb (Ext.trans hbX (Ext.trans hbl h2))) fun e => hx e.1⟩
      · exact (refAddPod_bad ⟨d0, d1, d2, d3⟩ p.rb va qa p.c.pods.length vc ys.length qc w1 ht (by omega) (by simpa using g3)).mono fun e w2 ⟨he, h2⟩ => ⟨he, StepOk.below h (Ext.trans hb (Ext.trans hbX (Ext.trans hbl h2))) fun e => hx e.1⟩
theorem call_eight (x : DOp) (on oa ob d0 d1 d2 d3 q0 q1 q2 q3 : Int) (s4 s5 s18 s19 : DSl) (k : DPkt) {wb B : Nat} {vl vd : Value} {Ps : List DPair} {Ds : List DSl} {w : World} (h : St wb B vl vd Ps Ds w) {j : Nat} {p : DPair} (hj : Ps[j]? = some p) (hx : ¬ x.kd = 3) (W : World) (hb : Below w.heap.size w W) :
    Calls Tryz.prog 54 #[.agg #[.pointer (some ⟨p.tb, 0, none⟩), .pointer (some ⟨p.rb, 0, none⟩)], .agg #[.int .i64 8, .int .i64 on, .int .i64 oa, .int .i64 ob, .slice s4.a s4.n s4.c, .slice s5.a s5.n s5.c, .int .i64 k.src, .int .i64 k.dst, .int .i64 k.proto, .int .i64 k.port, .int .i64 d0, .int .i64 d1, .int .i64 d2, .int .i64 d3, .int .i64 q0, .int .i64 q1, .int .i64 q2, .int .i64 q3, .slice s18.a s18.n s18.c, .slice s19.a s19.n s19.c]] W fun e w' => e = .returned (.bool true) ∧ StepOk x wb B vl vd Ps Ds w w' := by
  have hW := h.grow hb
  have hm := List.mem_of_getElem? hj
  have hp := hW.2.2.2.2.1 p hm
  have hr := hp.1
  obtain ⟨l1, l2⟩ := right_lens hr
  have ltb := hp.lt (b := p.tb) (has_true.2 (.inl rfl))
  have hBW : B ≤ W.heap.size := by
    have := (Array.getElem?_eq_some_iff.1 hW.2.1).1
    have := h.1.1
    omega
  cases hpa : podAt p.c.pods oa with
  | none =>
    refine changes_eight on oa ob d0 d1 d2 d3 q0 q1 q2 q3 s4 s5 s18 s19 k p.tb p.rb 6 W (fun X w1 => Below W.heap.size W X ∧ Below X.heap.size X w1) _ (hid fun X hbX => ?_) (hid fun X w1 hq => ?_)
    · obtain ⟨pa, qa, pc, qc, u2, t1, t2, t3, _, _⟩ := ((hW.grow hbX).2.2.2.2.1 p hm).tabs
      exact (dropPod_none oa p.tb u2 p.c pa qa pc qc X t1 t2 t3 hr hpa).mono fun e w' ⟨he, hc⟩ => ⟨he, fun b h1 h2 => hc.block b h2, hbX, hc⟩
    · obtain ⟨hbX, hc⟩ := hq
      have hpX := (hW.grow hbX).2.2.2.2.1 p hm
      obtain ⟨m1, m2, ys, m3, m4, m5⟩ := hpX.mid (w1 := w1) (fun b hb hne => hc.block b hb)
      have hyl : ys.length = p.c.pols.length := by rw [← m3, List.length_map]
      obtain ⟨va, vc, hv, hvc, hrd⟩ := own_pods m2 (by omega)
      obtain ⟨qa, qc, hv', hqc, _⟩ := own_slice m4
      have ht := m1
      rw [hv, hv'] at ht
      have hsX := hbX.size
      have hs1 : X.heap.size ≤ w1.heap.size := hc.size
      exact (refDropPod_none oa p.rb p.c.pods va qa vc ys.length qc w1 ht hrd (by rw [podAt_ixn hpa]; decide)).mono fun e w2 ⟨he, h2⟩ => ⟨he, StepOk.below h (Ext.trans hb (Ext.trans hbX (Ext.trans hc h2))) fun e => hx e.1⟩
  | some q =>
    have hz : (right ⟨p.c.pods.filter fun q => decide (q.ip ≠ oa), p.c.pols⟩).1 = 0 := by rw [right_dropPod hr]
    refine changes_eight on oa ob d0 d1 d2 d3 q0 q1 q2 q3 s4 s5 s18 s19 k p.tb p.rb 0 W (fun X w1 => Below W.heap.size W X ∧ Chg p.tb ⟨p.c.pods.filter fun q => decide (q.ip ≠ oa), p.c.pols⟩ X w1) _ (hid fun X hbX => ?_) (hid fun X w1 hq => ?_)
    · obtain ⟨pa, qa, pc, qc, u2, t1, t2, t3, _, _⟩ := ((hW.grow hbX).2.2.2.2.1 p hm).tabs
      exact (dropPod_some oa p.tb u2 p.c pa qa pc qc X t1 t2 t3 hr (by rw [hpa]; rfl)).mono fun e w' ⟨he, hc⟩ => ⟨he, fun b h1 h2 => hc.keep h2 (by omega), hbX, hc⟩
    · obtain ⟨hbX, hc⟩ := hq
      have hpX := (hW.grow hbX).2.2.2.2.1 p hm
      obtain ⟨m1, m2, ys, m3, m4, m5⟩ := hpX.mid (w1 := w1) (fun b hb hne => hc.keep hb hne)
      have hyl : ys.length = p.c.pols.length := by rw [← m3, List.length_map]
      obtain ⟨va, vc, hv, hvc, hrd⟩ := own_pods m2 (by omega)
      obtain ⟨qa, qc, hv', hqc, _⟩ := own_slice m4
      have ht := m1
      rw [hv, hv'] at ht
      have hsX := hbX.size
      have hs1 : X.heap.size ≤ w1.heap.size := hc.size
      obtain ⟨i, hi, hix⟩ := podAt_ix hpa
      have hil := (List.getElem?_eq_some_iff.1 hi).1
      refine (refDropPod_some oa p.rb i p.c.pods va qa vc ys.length qc w1 ht hrd hvc (by omega) hix hil).mono fun e w2 ⟨he, hR⟩ => ⟨he, ?_⟩
      rw [← hv', drop_filter (right_zero hr).1.2 hi, podAt_ip hpa] at hR
      exact StepOk.changed h (Ext.trans hb hbX) hj hx hz hc (RefTo.dropPod (by omega) m1 m3 m4 m5 hR)
theorem call_ten (x : DOp) (on oa ob d0 d1 d2 d3 q0 q1 q2 q3 : Int) (s4 s5 s18 s19 : DSl) (k : DPkt) {wb B : Nat} {vl vd : Value} {Ps : List DPair} {Ds : List DSl} {w : World} (h : St wb B vl vd Ps Ds w) {j : Nat} {p : DPair} (hj : Ps[j]? = some p) (hx : ¬ x.kd = 3) (W : World) (hb : Below w.heap.size w W) :
    Calls Tryz.prog 54 #[.agg #[.pointer (some ⟨p.tb, 0, none⟩), .pointer (some ⟨p.rb, 0, none⟩)], .agg #[.int .i64 10, .int .i64 on, .int .i64 oa, .int .i64 ob, .slice s4.a s4.n s4.c, .slice s5.a s5.n s5.c, .int .i64 k.src, .int .i64 k.dst, .int .i64 k.proto, .int .i64 k.port, .int .i64 d0, .int .i64 d1, .int .i64 d2, .int .i64 d3, .int .i64 q0, .int .i64 q1, .int .i64 q2, .int .i64 q3, .slice s18.a s18.n s18.c, .slice s19.a s19.n s19.c]] W fun e w' => e = .returned (.bool true) ∧ StepOk x wb B vl vd Ps Ds w w' := by
  have hW := h.grow hb
  have hm := List.mem_of_getElem? hj
  have hp := hW.2.2.2.2.1 p hm
  have hr := hp.1
  obtain ⟨l1, l2⟩ := right_lens hr
  have ltb := hp.lt (b := p.tb) (has_true.2 (.inl rfl))
  have hBW : B ≤ W.heap.size := by
    have := (Array.getElem?_eq_some_iff.1 hW.2.1).1
    have := h.1.1
    omega
  by_cases hi : 0 ≤ oa ∧ oa < p.c.pols.length
  · obtain ⟨i, rfl⟩ : ∃ i : Nat, oa = (i : Int) := ⟨oa.toNat, by omega⟩
    have hil : i < p.c.pols.length := by omega
    have hz : (right ⟨p.c.pods, p.c.pols.take i ++ p.c.pols.drop (i + 1)⟩).1 = 0 := by rw [right_dropPol hr]
    refine changes_ten on (i : Int) ob d0 d1 d2 d3 q0 q1 q2 q3 s4 s5 s18 s19 k p.tb p.rb 0 W (fun X w1 => Below W.heap.size W X ∧ Chg p.tb ⟨p.c.pods, p.c.pols.take i ++ p.c.pols.drop (i + 1)⟩ X w1) _ (hid fun X hbX => ?_) (hid fun X w1 hq => ?_)
    · obtain ⟨pa, qa, pc, qc, u2, t1, t2, t3, t4, t5⟩ := ((hW.grow hbX).2.2.2.2.1 p hm).tabs
      exact (dropPol_some i p.tb u2 p.c pa qa pc qc X t1 t2 t3 t4 t5 hr hil).mono fun e w' ⟨he, hc⟩ => ⟨he, fun b h1 h2 => hc.keep h2 (by omega), hbX, hc⟩
    · obtain ⟨hbX, hc⟩ := hq
      have hpX := (hW.grow hbX).2.2.2.2.1 p hm
      obtain ⟨m1, m2, ys, m3, m4, m5⟩ := hpX.mid (w1 := w1) (fun b hb hne => hc.keep hb hne)
      have hyl : ys.length = p.c.pols.length := by rw [← m3, List.length_map]
      obtain ⟨va, vc, hv, hvc, hrd⟩ := own_pods m2 (by omega)
      obtain ⟨qa, qc, hv', hqc, _⟩ := own_slice m4
      have ht := m1
      rw [hv, hv'] at ht
      have hsX := hbX.size
      have hs1 : X.heap.size ≤ w1.heap.size := hc.size
      obtain ⟨qa2, qc2, hv2, _, hrq⟩ := own_rd (bytes := 80) (E := eCells encPol) (enc := encPol) (fun _ => rfl) m4 (by decide) (by omega) (fun b o x _ _ hc => hc)
      rw [hv'] at hv2
      injection hv2 with z1 z2 z3
      subst z1 z3
      refine (refDropPol_some p.rb i ys va qa p.c.pods.length vc qc w1 ht hrq (encPols_ones m5) hqc (by omega) (by omega)).mono fun e w2 ⟨he, hR⟩ => ⟨he, ?_⟩
      rw [← hv] at hR
      exact StepOk.changed h (Ext.trans hb hbX) hj hx hz hc (RefTo.dropPol (by omega) m1 m2 (by rw [List.map_append, List.map_take, List.map_drop, m3]) (fun y hy => m5 y (by
        rcases List.mem_append.1 hy with hy | hy
        · exact List.mem_of_mem_take hy
        · exact List.mem_of_mem_drop hy)) hR)
  · refine changes_ten on oa ob d0 d1 d2 d3 q0 q1 q2 q3 s4 s5 s18 s19 k p.tb p.rb 6 W (fun X w1 => Below W.heap.size W X ∧ Below X.heap.size X w1) _ (hid fun X hbX => ?_) (hid fun X w1 hq => ?_)
    · obtain ⟨pa, qa, pc, qc, u2, t1, t2, t3, t4, t5⟩ := ((hW.grow hbX).2.2.2.2.1 p hm).tabs
      exact (dropPol_none oa p.tb u2 p.c pa qa pc qc X t1 t2 t3 t4 t5 hr hi).mono fun e w' ⟨he, hc⟩ => ⟨he, fun b h1 h2 => hc.block b h2, hbX, hc⟩
    · obtain ⟨hbX, hc⟩ := hq
      have hpX := (hW.grow hbX).2.2.2.2.1 p hm
      obtain ⟨m1, m2, ys, m3, m4, m5⟩ := hpX.mid (w1 := w1) (fun b hb hne => hc.block b hb)
      have hyl : ys.length = p.c.pols.length := by rw [← m3, List.length_map]
      obtain ⟨va, vc, hv, hvc, hrd⟩ := own_pods m2 (by omega)
      obtain ⟨qa, qc, hv', hqc, _⟩ := own_slice m4
      have ht := m1
      rw [hv, hv'] at ht
      have hsX := hbX.size
      have hs1 : X.heap.size ≤ w1.heap.size := hc.size
      exact (refDropPol_none oa p.rb va qa p.c.pods.length vc ys.length qc w1 ht (by rw [hyl]; exact hi)).mono fun e w2 ⟨he, h2⟩ => ⟨he, StepOk.below h (Ext.trans hb (Ext.trans hbX (Ext.trans hc h2))) fun e => hx e.1⟩
theorem call_nine (x : DOp) (pl : DPol) (xa ya : Option Addr) (xc yc : Nat) (on oa ob d0 d1 d2 d3 : Int) (s4 s5 : DSl) (k : DPkt) {wb B : Nat} {vl vd : Value} {Ps : List DPair} {Ds : List DSl} {w : World} (h : St wb B vl vd Ps Ds w) {j : Nat} {p : DPair} (hj : Ps[j]? = some p) (hx : ¬ x.kd = 3) (S0 : Nat) (hS : S0 ≤ w.heap.size) (hSp : ∀ b, p.has b = true → S0 ≤ b) (ho : rdRules S0 w xa pl.outs) (hi : rdRules S0 w ya pl.ins) (W : World) (hb : Below w.heap.size w W) :
    Calls Tryz.prog 54 #[.agg #[.pointer (some ⟨p.tb, 0, none⟩), .pointer (some ⟨p.rb, 0, none⟩)], .agg #[.int .i64 9, .int .i64 on, .int .i64 oa, .int .i64 ob, .slice s4.a s4.n s4.c, .slice s5.a s5.n s5.c, .int .i64 k.src, .int .i64 k.dst, .int .i64 k.proto, .int .i64 k.port, .int .i64 d0, .int .i64 d1, .int .i64 d2, .int .i64 d3, .int .i64 pl.space, .int .i64 pl.need, .int .i64 pl.ban, .int .i64 pl.ways, .slice xa pl.outs.length xc, .slice ya pl.ins.length yc]] W fun e w' => e = .returned (.bool true) ∧ StepOk x wb B vl vd Ps Ds w w' := by
  have hW := h.grow hb
  have hm := List.mem_of_getElem? hj
  have hp := hW.2.2.2.2.1 p hm
  have hr := hp.1
  obtain ⟨l1, l2⟩ := right_lens hr
  have ltb := hp.lt (b := p.tb) (has_true.2 (.inl rfl))
  have hBW : B ≤ W.heap.size := by
    have := (Array.getElem?_eq_some_iff.1 hW.2.1).1
    have := h.1.1
    omega
  have hra := right_addPol hr pl
  have hsW := hb.size
  have hStb := hSp p.tb (has_true.2 (.inl rfl))
  have hbS : Below S0 w W := hb.mono hS
  refine changes_nine pl xa ya xc yc on oa ob d0 d1 d2 d3 s4 s5 k p.tb p.rb S0 (right ⟨p.c.pods, p.c.pols ++ [pl]⟩).1 W (fun X w1 => Below W.heap.size W X ∧ Chg p.tb ⟨p.c.pods, p.c.pols ++ [pl]⟩ X w1) _ (by omega) (rdRules.ext hbS (Nat.le_refl _) ho) (rdRules.ext hbS (Nat.le_refl _) hi) (hid fun X sa ta sc tc hbX r1 r2 => ?_) (hid fun X w0 lo hi' w1 hq hlo hhi hon hb1 => ?_)
  · obtain ⟨pa, qa, pc, qc, u2, t1, t2, t3, t4, t5⟩ := ((hW.grow hbX).2.2.2.2.1 p hm).tabs
    have hsX := hbX.size
    exact (addPol_any pl sa ta sc tc p.tb u2 p.c pa qa pc qc X t1 t2 t3 t4 t5 hr r1 r2).mono fun e w' ⟨he, hc⟩ => ⟨he, ⟨hc.size, fun b h1 h2 => hc.keep h2 (by omega)⟩, (hbX.mono (by omega)).trans (hc.below hStb (by omega)), hbX, hc⟩
  · obtain ⟨hbX, hc0⟩ := hq
    have hc : Chg p.tb ⟨p.c.pods, p.c.pols ++ [pl]⟩ W w1 := Chg.only hbX hc0 ltb hlo hhi hon
    obtain ⟨m1, m2, ys, m3, m4, m5⟩ := hp.mid (w1 := w1) (fun b hb hne => hc.keep hb hne)
    have hyl : ys.length = p.c.pols.length := by rw [← m3, List.length_map]
    obtain ⟨va, vc, hv, hvc, hrd⟩ := own_pods m2 (by omega)
    obtain ⟨qa, qc, hv', hqc, _⟩ := own_slice m4
    have ht := m1
    rw [hv, hv'] at ht
    have hs1 : W.heap.size ≤ w1.heap.size := hc.size
    have ro : rdRules w1.heap.size w1 xa pl.outs := rdRules.ext (hbS.trans hb1) (by omega) ho
    have ri : rdRules w1.heap.size w1 ya pl.ins := rdRules.ext (hbS.trans hb1) (by omega) hi
    by_cases g1 : 4 ≤ p.c.pols.length
    · have e1 : (right ⟨p.c.pods, p.c.pols ++ [pl]⟩).1 = 1 := by rw [hra, if_pos g1]
      have hbl := hc.2 (by rw [e1]; decide)
      rw [e1]
      exact (refAddPol_many pl xa ya xc yc p.rb va qa p.c.pods.length vc ys.length qc w1 ht (by omega)).mono fun e w2 ⟨he, h2⟩ => ⟨he, StepOk.below h (Ext.trans hb (Ext.trans hbl h2)) fun e => hx e.1⟩
    by_cases g2 : polOk pl = true
    · have e1 : (right ⟨p.c.pods, p.c.pols ++ [pl]⟩).1 = 0 := by rw [hra, if_neg g1, if_pos g2]
      have ht2 := m1
      rw [hv] at ht2
      rw [e1]
      refine (refAddPol_ok pl xa ya xc yc p.rb B ys va p.c.pods.length vc p.v' w1 ht2 m4 (by omega) ro ri (by omega) g2).mono fun e w2 ⟨he, hR⟩ => ⟨he, ?_⟩
      rw [← hv] at hR
      exact StepOk.changed h hb hj hx e1 hc (RefTo.addPol m1 m2 m3 m4 m5 hR)
    · have e1 : (right ⟨p.c.pods, p.c.pols ++ [pl]⟩).1 = 3 := by rw [hra, if_neg g1, if_neg g2]
      have hbl := hc.2 (by rw [e1]; decide)
      rw [e1]
      exact (refAddPol_bad pl xa ya xc yc p.rb va qa p.c.pods.length vc ys.length qc w1 ht ro ri (by omega) (by simpa using g2)).mono fun e w2 ⟨he, h2⟩ => ⟨he, StepOk.below h (Ext.trans hb (Ext.trans hbl h2)) fun e => hx e.1⟩
set_option maxRecDepth 100000 in
set_option maxHeartbeats 2000000 in
theorem step_all (x : DOp) {wb B S0 : Nat} {vl vd : Value} {Ps : List DPair} {Ds : List DSl} {w : World} (h : St wb B vl vd Ps Ds w) (ho : okOp S0 w x) (hS : S0 ≤ w.heap.size) (hSp : ∀ p ∈ Ps, ∀ b, p.has b = true → S0 ≤ b) (hon : i64 x.on) (hk : x.kd ≤ 10) (hPl : (Ps.length + 1) * 16 ≤ 140737488355328) (hDl : (Ds.length + 4) * 24 ≤ 140737488355328) :
    Calls Tryz.prog 30 #[.pointer (some ⟨wb, 0, none⟩), .agg #[.int .i64 x.kd, .int .i64 x.on, .int .i64 x.oa, .int .i64 x.ob, .slice x.s4.a x.s4.n x.s4.c, .slice x.s5.a x.s5.n x.s5.c, .int .i64 x.k.src, .int .i64 x.k.dst, .int .i64 x.k.proto, .int .i64 x.k.port, .int .i64 x.d0, .int .i64 x.d1, .int .i64 x.d2, .int .i64 x.d3, .int .i64 x.q0, .int .i64 x.q1, .int .i64 x.q2, .int .i64 x.q3, .slice x.s18.a x.s18.n x.s18.c, .slice x.s19.a x.s19.n x.s19.c]] w fun e w' => e = .returned (.bool true) ∧ StepOk x wb B vl vd Ps Ds w w' := by
  by_cases h6 : x.kd ≤ 6
  · exact step_any x h (okOp.sub (Sub.refl w) hS ho) hon h6 hPl hDl
  obtain ⟨kd, on, oa, ob, s4, s5, k, d0, d1, d2, d3, q0, q1, q2, q3, ⟨xa, xn, xc⟩, ⟨ya, yn, yc⟩, c, outs, ins⟩ := x
  obtain ⟨⟨_, _, e18, e19⟩, _, _, hro, hri⟩ := ho
  simp only at e18 e19 hro hri hk hon h6
  subst e18 e19
  have n1 : ¬ kd = 1 := by omega
  have n2 : ¬ kd = 2 := by omega
  have n3 : ¬ kd = 3 := by omega
  have n4 : ¬ kd = 4 := by omega
  have n5 : ¬ kd = 5 := by omega
  have n6 : ¬ kd = 6 := by omega
  by_cases hP : Ps = []
  · obtain ⟨la, lc, hl⟩ := h.none hP
    exact (step_empty on oa ob d0 d1 d2 d3 q0 q1 q2 q3 s4 s5 ⟨xa, outs.length, xc⟩ ⟨ya, ins.length, yc⟩ k kd wb la lc w n1 n2 n3 hl).mono fun e w' ⟨he, ho⟩ => ⟨he, StepOk.below h ho (fun e => n3 e.1)⟩
  have hn : 0 < Ps.length := List.length_pos_iff.2 hP
  obtain ⟨z0, z1⟩ := pk_in (c := on) (n := (Ps.length : Int)) (by omega)
  obtain ⟨j, hj⟩ : ∃ j : Nat, pk on (Ps.length : Int) = (j : Int) := ⟨(pk on (Ps.length : Int)).toNat, by omega⟩
  have hjl : j < Ps.length := by omega
  obtain ⟨p, hpj⟩ : ∃ p, Ps[j]? = some p := ⟨Ps[j], List.getElem?_eq_getElem hjl⟩
  have hmem := List.mem_of_getElem? hpj
  obtain ⟨g, lc, hvl, c0, c1⟩ := h.at hpj
  have hl : w.cell? ⟨wb, 0, none⟩ = some (.slice (some ⟨g, 0, none⟩) Ps.length lc) := by rw [(blk_cell h.2.1 0).trans rfl, ← hvl]; rfl
  refine step_else on oa ob d0 d1 d2 d3 q0 q1 q2 q3 s4 s5 ⟨xa, outs.length, xc⟩ ⟨ya, ins.length, yc⟩ k kd wb g lc Ps.length j p.tb p.rb w _ n1 n2 n3 n4 n5 n6 (by omega) hjl hon hj hl c0 c1 (hid fun W hb => ?_)
  by_cases h7 : kd = 7
  · subst h7
    exact call_seven _ on oa ob d0 d1 d2 d3 q0 q1 q2 q3 s4 s5 ⟨xa, outs.length, xc⟩ ⟨ya, ins.length, yc⟩ k h hpj (show ¬ (7 : Int) = 3 by decide) W hb
  by_cases h8 : kd = 8
  · subst h8
    exact call_eight _ on oa ob d0 d1 d2 d3 q0 q1 q2 q3 s4 s5 ⟨xa, outs.length, xc⟩ ⟨ya, ins.length, yc⟩ k h hpj (show ¬ (8 : Int) = 3 by decide) W hb
  by_cases h9 : kd = 9
  · subst h9
    exact call_nine _ ⟨q0, q1, q2, q3, outs, ins⟩ xa ya xc yc on oa ob d0 d1 d2 d3 s4 s5 k h hpj (show ¬ (9 : Int) = 3 by decide) S0 hS (hSp p hmem) hro hri W hb
  have h10 : kd = 10 := by omega
  subst h10
  exact call_ten _ on oa ob d0 d1 d2 d3 q0 q1 q2 q3 s4 s5 ⟨xa, outs.length, xc⟩ ⟨ya, ins.length, yc⟩ k h hpj (show ¬ (10 : Int) = 3 by decide) W hb
end Go.Proofs.YtmkjlhplgcifiaaGreat
namespace Go.Proofs.YtmkjlhplgcifiaaGreat
open Go.ChangeShapes Go.WideShapes Go.ChangeAt Go.RowKit
set_option linter.unusedVariables false
set_option linter.unusedSimpArgs false
attribute [local simp] World.cell?_grow World.cell?_alloc_there
attribute [local go_sem] World.cell?_grow World.cell?_alloc_there eqg_blk std_blk eqg_pod std_pod eqg_sel std_sel eqg_prt std_prt
attribute [local go_sem ↓] eql_blk eql_sel neq_sel eql_prt eql_pod met_in1 met_in2 met_re1 met_re2
set_option maxRecDepth 100000 in
set_option maxHeartbeats 4000000 in
theorem little_up (w : World) :
    Calls Tryz.prog 29 #[] w fun e w' => ∃ pa qa, e = .returned (.agg #[.slice pa 2 2, .slice qa 1 1]) ∧ rdPods w'.heap.size (hide w' (low w.heap.size)) pa litClu.pods ∧ rdPols w'.heap.size (hide w' (low w.heap.size)) qa litClu.pols ∧ Below w.heap.size w w' := by
  go_enter Tryz.func29, Tryz.ntmps29
  go_wp2
  generalize hW : ((((((((w.alloc (Obj.cells #[.slice (some ⟨w.heap.size + 1 + 1 + 1 + 1 + 1 + 1, 0, none⟩) 2 2, .slice (some ⟨w.heap.size + 1 + 1 + 1 + 1 + 1 + 1 + 1, 0, none⟩) 1 1] 28)).alloc (Obj.cells #[.int .i64 1, .int .i64 1, .int .i64 0, .int .i64 0, .int .i64 0, .int .i64 0, .slice none 0 0] 69)).alloc (Obj.cells #[.int .i64 1, .int .i64 80, .int .i64 90] 109)).alloc (Obj.cells #[.slice (some ⟨w.heap.size + 1, 0, none⟩) 1 1, .slice (some ⟨w.heap.size + 1 + 1, 0, none⟩) 1 1] 64)).alloc (Obj.cells #[.slice (some ⟨w.heap.size + 1, 0, none⟩) 1 1, .slice (some ⟨w.heap.size + 1 + 1, 0, none⟩) 1 1] 64)).alloc (Obj.cells #[.int .i64 0, .int .i64 2, .int .i64 0, .int .i64 2, .slice none 0 0, .slice (some ⟨w.heap.size + 1 + 1 + 1 + 1, 0, none⟩) 1 1] 59)).alloc (Obj.cells #[.int .i64 0, .int .i64 5, .int .i64 0, .int .i64 1, .int .i64 1, .int .i64 6, .int .i64 0, .int .i64 2] 54)).alloc (Obj.cells #[.int .i64 0, .int .i64 2, .int .i64 0, .int .i64 2, .slice none 0 0, .slice (some ⟨w.heap.size + 1 + 1 + 1 + 1, 0, none⟩) 1 1] 59)) = W
  have hs : W.heap.size = w.heap.size + 8 := by rw [← hW]; simp
  have HB : Below w.heap.size w W := by rw [← hW]; exact bel
  have p0 : W.cell? ⟨w.heap.size + 1 + 1 + 1 + 1 + 1 + 1, 0, none⟩ = some (.int .i64 0) := by rw [← hW]; simp [go_sem]
  have p1 : W.cell? ⟨w.heap.size + 1 + 1 + 1 + 1 + 1 + 1, 1, none⟩ = some (.int .i64 5) := by rw [← hW]; simp [go_sem]
  have p2 : W.cell? ⟨w.heap.size + 1 + 1 + 1 + 1 + 1 + 1, 2, none⟩ = some (.int .i64 0) := by rw [← hW]; simp [go_sem]
  have p3 : W.cell? ⟨w.heap.size + 1 + 1 + 1 + 1 + 1 + 1, 3, none⟩ = some (.int .i64 1) := by rw [← hW]; simp [go_sem]
  have p4 : W.cell? ⟨w.heap.size + 1 + 1 + 1 + 1 + 1 + 1, 4, none⟩ = some (.int .i64 1) := by rw [← hW]; simp [go_sem]
  have p5 : W.cell? ⟨w.heap.size + 1 + 1 + 1 + 1 + 1 + 1, 5, none⟩ = some (.int .i64 6) := by rw [← hW]; simp [go_sem]
  have p6 : W.cell? ⟨w.heap.size + 1 + 1 + 1 + 1 + 1 + 1, 6, none⟩ = some (.int .i64 0) := by rw [← hW]; simp [go_sem]
  have p7 : W.cell? ⟨w.heap.size + 1 + 1 + 1 + 1 + 1 + 1, 7, none⟩ = some (.int .i64 2) := by rw [← hW]; simp [go_sem]
  have q0 : W.cell? ⟨w.heap.size + 1 + 1 + 1 + 1 + 1 + 1 + 1, 0, none⟩ = some (.int .i64 0) := by rw [← hW]; simp [go_sem]
  have q1 : W.cell? ⟨w.heap.size + 1 + 1 + 1 + 1 + 1 + 1 + 1, 1, none⟩ = some (.int .i64 2) := by rw [← hW]; simp [go_sem]
  have q2 : W.cell? ⟨w.heap.size + 1 + 1 + 1 + 1 + 1 + 1 + 1, 2, none⟩ = some (.int .i64 0) := by rw [← hW]; simp [go_sem]
  have q3 : W.cell? ⟨w.heap.size + 1 + 1 + 1 + 1 + 1 + 1 + 1, 3, none⟩ = some (.int .i64 2) := by rw [← hW]; simp [go_sem]
  have q4 : W.cell? ⟨w.heap.size + 1 + 1 + 1 + 1 + 1 + 1 + 1, 4, none⟩ = some (.slice none 0 0) := by rw [← hW]; simp [go_sem]
  have q5 : W.cell? ⟨w.heap.size + 1 + 1 + 1 + 1 + 1 + 1 + 1, 5, none⟩ = some (.slice (some ⟨w.heap.size + 1 + 1 + 1 + 1, 0, none⟩) 1 1) := by rw [← hW]; simp [go_sem]
  have r0 : W.cell? ⟨w.heap.size + 1 + 1 + 1 + 1, 0, none⟩ = some (.slice (some ⟨w.heap.size + 1, 0, none⟩) 1 1) := by rw [← hW]; simp [go_sem]
  have r1 : W.cell? ⟨w.heap.size + 1 + 1 + 1 + 1, 1, none⟩ = some (.slice (some ⟨w.heap.size + 1 + 1, 0, none⟩) 1 1) := by rw [← hW]; simp [go_sem]
  have e0 : W.cell? ⟨w.heap.size + 1, 0, none⟩ = some (.int .i64 1) := by rw [← hW]; simp [go_sem]
  have e1 : W.cell? ⟨w.heap.size + 1, 1, none⟩ = some (.int .i64 1) := by rw [← hW]; simp [go_sem]
  have e2 : W.cell? ⟨w.heap.size + 1, 2, none⟩ = some (.int .i64 0) := by rw [← hW]; simp [go_sem]
  have e3 : W.cell? ⟨w.heap.size + 1, 3, none⟩ = some (.int .i64 0) := by rw [← hW]; simp [go_sem]
  have e4 : W.cell? ⟨w.heap.size + 1, 4, none⟩ = some (.int .i64 0) := by rw [← hW]; simp [go_sem]
  have e5 : W.cell? ⟨w.heap.size + 1, 5, none⟩ = some (.int .i64 0) := by rw [← hW]; simp [go_sem]
  have e6 : W.cell? ⟨w.heap.size + 1, 6, none⟩ = some (.slice none 0 0) := by rw [← hW]; simp [go_sem]
  have t0 : W.cell? ⟨w.heap.size + 1 + 1, 0, none⟩ = some (.int .i64 1) := by rw [← hW]; simp [go_sem]
  have t1 : W.cell? ⟨w.heap.size + 1 + 1, 1, none⟩ = some (.int .i64 80) := by rw [← hW]; simp [go_sem]
  have t2 : W.cell? ⟨w.heap.size + 1 + 1, 2, none⟩ = some (.int .i64 90) := by rw [← hW]; simp [go_sem]
  have c0 : W.cell? ⟨w.heap.size, 0, none⟩ = some (.slice (some ⟨w.heap.size + 1 + 1 + 1 + 1 + 1 + 1, 0, none⟩) 2 2) := by rw [← hW]; simp [go_sem]
  have c1 : W.cell? ⟨w.heap.size, 1, none⟩ = some (.slice (some ⟨w.heap.size + 1 + 1 + 1 + 1 + 1 + 1 + 1, 0, none⟩) 1 1) := by rw [← hW]; simp [go_sem]
  clear hW
  have hid2 : ∀ {b o : Nat} {u : Value}, w.heap.size ≤ b → W.cell? ⟨b, o, none⟩ = some u → (hide W (low w.heap.size)).cell? ⟨b, o, none⟩ = some u := fun hb h => (hide_cell _ _ _ _ (low_false.2 hb)).trans h
  replace p0 := hid2 (by omega) p0
  replace p1 := hid2 (by omega) p1
  replace p2 := hid2 (by omega) p2
  replace p3 := hid2 (by omega) p3
  replace p4 := hid2 (by omega) p4
  replace p5 := hid2 (by omega) p5
  replace p6 := hid2 (by omega) p6
  replace p7 := hid2 (by omega) p7
  replace q0 := hid2 (by omega) q0
  replace q1 := hid2 (by omega) q1
  replace q2 := hid2 (by omega) q2
  replace q3 := hid2 (by omega) q3
  replace q4 := hid2 (by omega) q4
  replace q5 := hid2 (by omega) q5
  replace r0 := hid2 (by omega) r0
  replace r1 := hid2 (by omega) r1
  replace e0 := hid2 (by omega) e0
  replace e1 := hid2 (by omega) e1
  replace e2 := hid2 (by omega) e2
  replace e3 := hid2 (by omega) e3
  replace e4 := hid2 (by omega) e4
  replace e5 := hid2 (by omega) e5
  replace e6 := hid2 (by omega) e6
  replace t0 := hid2 (by omega) t0
  replace t1 := hid2 (by omega) t1
  replace t2 := hid2 (by omega) t2
  refine bodyPost_ret (v := .agg #[.slice (some ⟨w.heap.size + 1 + 1 + 1 + 1 + 1 + 1, 0, none⟩) 2 2, .slice (some ⟨w.heap.size + 1 + 1 + 1 + 1 + 1 + 1 + 1, 0, none⟩) 1 1]) (by simp [results, Tryz.results29, go_sem, c0, c1]) rfl ⟨_, _, rfl, ?_, ?_, HB⟩
  · exact rd_two (by decide) (by omega) ⟨p0, p1, p2, p3⟩ ⟨p4, p5, p6, p7⟩
  · exact rd_one (by decide) (by omega) ⟨q0, q1, q2, q3, ⟨none, 0, q4, rd_nil _ _ _ _ _ _⟩, _, _, q5, rd_one (by decide) (by omega) ⟨⟨_, _, r0, rd_one (by decide) (by omega) ⟨e0, e1, e2, e3, e4, e5, none, 0, e6, rd_nil _ _ _ _ _ _⟩⟩, _, _, r1, rd_one (by decide) (by omega) ⟨t0, t1, t2⟩⟩⟩
end Go.Proofs.YtmkjlhplgcifiaaGreat
