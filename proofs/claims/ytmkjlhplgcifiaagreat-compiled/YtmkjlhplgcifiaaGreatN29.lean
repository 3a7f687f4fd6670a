/-
  palisaderef: CopiedPolicy, Copied, walked.
  Rows of marks: lists of one row again and again, that are written over and appended to.
-/
import Derived.Test.YtmkjlhplgcifiaaGreatN28
import Derived.Test.YtmkjlhplgcifiaaGreatN16
import Derived.Deep.CutBlock
import Derived.Laws.AppendOwn
import Derived.Maps.AppendAt
namespace Go.Proofs.YtmkjlhplgcifiaaGreat
open Go.ChangeShapes Go.WideShapes Go.ChangeAt Go.RowKit
attribute [local simp] World.cell?_grow
attribute [local go_sem] World.cell?_grow
attribute [local simp] World.cell?_alloc_there
attribute [local go_sem] World.cell?_alloc_there
attribute [local go_sem] eqg_blk std_blk eqg_pod std_pod eqg_sel std_sel eqg_prt std_prt
attribute [local go_sem ↓] eql_blk eql_sel neq_sel eql_prt eql_pod
attribute [local go_sem ↓] met_in1 met_in2 met_re1 met_re2
attribute [local go_sem ↓] met_has1 met_has2
attribute [local go_sem ↓] met_bl1 met_bl2
attribute [local go_sem] eqg_row std_row
attribute [local go_sem ↓] neq_row
set_option linter.unusedVariables false
set_option linter.unusedSimpArgs false
/-- two values are the lists of pods and policies of a cluster -/
def RdClu (B : Nat) (w : World) (v v' : Value) (c : DClu) : Prop :=
  ∃ (a : Option Addr) (n : Nat) (a' : Option Addr) (n' : Nat), v = .slice a c.pods.length n ∧ v' = .slice a' c.pols.length n' ∧ rdPods B w a c.pods ∧ rdPols B w a' c.pols
theorem Up.gb0 {X : Type} {e : TypeId} {k : Nat} {enc : X → List Value} {N : Nat → World → X → Prop} (hN : Mono N) {base q : Nat} {w w' : World} {v : Value} {ys : List X} (h : Up e k enc N base w v ys) (hg : w.grownBy w' (some q)) (hq : q < base) : Up e k enc N base w' v ys :=
  ⟨own_stay h.1 fun g hgv => hg.block g (h.lt g hgv).2 (fun e => by cases e; have := (h.lt _ hgv).1; omega),
   fun y hy => hN _ _ _ _ y (Sub.hide fun b hb hG => ⟨hG, hg.block b hb (fun e => by cases e; have := (lowOr_false.1 hG).1; omega)⟩) hg.size (h.2 y hy)⟩
set_option maxRecDepth 100000 in
set_option maxHeartbeats 2000000 in
theorem copiedPolicy_any (p : DPol) (oa ia : Option Addr) (oc ic : Nat) (w : World) (ho : rdRules w.heap.size w oa p.outs) (hi : rdRules w.heap.size w ia p.ins) :
    Calls Tryz.prog 109 #[.agg #[.int .i64 p.space, .int .i64 p.need, .int .i64 p.ban, .int .i64 p.ways, .slice oa p.outs.length oc, .slice ia p.ins.length ic]] w
      fun e w' => (∃ a c a' c', e = .returned (.agg #[.int .i64 p.space, .int .i64 p.need, .int .i64 p.ban, .int .i64 p.ways, .slice a p.outs.length c, .slice a' p.ins.length c']) ∧ rdRules w'.heap.size (hide w' (low w.heap.size)) a p.outs ∧ rdRules w'.heap.size (hide w' (low w.heap.size)) a' p.ins) ∧ Below w.heap.size w w' := by
  have HO := hid ho
  have HI := hid hi
  clear ho hi
  go_enter Tryz.func109, Tryz.ntmps109
  go_wp2_with fail
  have q0 : ((w.alloc (.cells #[.int .i64 p.space, .int .i64 p.need, .int .i64 p.ban, .int .i64 p.ways, .slice oa p.outs.length oc, .slice ia p.ins.length ic] 59)).alloc (.cells #[.int .i64 0, .int .i64 0, .int .i64 0, .int .i64 0, .slice none 0 0, .slice none 0 0] 59)).heap[w.heap.size]? = some (.cells #[.int .i64 p.space, .int .i64 p.need, .int .i64 p.ban, .int .i64 p.ways, .slice oa p.outs.length oc, .slice ia p.ins.length ic] 59 (0, 0)) := (Below.heap_alloc _ _ _ (by simp)).trans (new_heap _ _)
  have q1 : ((w.alloc (.cells #[.int .i64 p.space, .int .i64 p.need, .int .i64 p.ban, .int .i64 p.ways, .slice oa p.outs.length oc, .slice ia p.ins.length ic] 59)).alloc (.cells #[.int .i64 0, .int .i64 0, .int .i64 0, .int .i64 0, .slice none 0 0, .slice none 0 0] 59)).heap[w.heap.size + 1]? = some (.cells #[.int .i64 0, .int .i64 0, .int .i64 0, .int .i64 0, .slice none 0 0, .slice none 0 0] 59 (0, 0)) := by
    have := new_heap (w.alloc (.cells #[.int .i64 p.space, .int .i64 p.need, .int .i64 p.ban, .int .i64 p.ways, .slice oa p.outs.length oc, .slice ia p.ins.length ic] 59)) (.cells #[.int .i64 0, .int .i64 0, .int .i64 0, .int .i64 0, .slice none 0 0, .slice none 0 0] 59)
    simpa only [World.size_alloc] using this
  have hB : Below w.heap.size w ((w.alloc (.cells #[.int .i64 p.space, .int .i64 p.need, .int .i64 p.ban, .int .i64 p.ways, .slice oa p.outs.length oc, .slice ia p.ins.length ic] 59)).alloc (.cells #[.int .i64 0, .int .i64 0, .int .i64 0, .int .i64 0, .slice none 0 0, .slice none 0 0] 59)) := (by repeat (first | exact Below.refl _ _ | assumption | apply Ext.alloc | apply Ext.drewN | apply Ext.drew | refine Ext.trans ?_ (by assumption)))
  have hS : w.heap.size + 2 ≤ ((w.alloc (.cells #[.int .i64 p.space, .int .i64 p.need, .int .i64 p.ban, .int .i64 p.ways, .slice oa p.outs.length oc, .slice ia p.ins.length ic] 59)).alloc (.cells #[.int .i64 0, .int .i64 0, .int .i64 0, .int .i64 0, .slice none 0 0, .slice none 0 0] 59)).heap.size := by simp only [World.size_alloc]; omega
  generalize ((w.alloc (.cells #[.int .i64 p.space, .int .i64 p.need, .int .i64 p.ban, .int .i64 p.ways, .slice oa p.outs.length oc, .slice ia p.ins.length ic] 59)).alloc (.cells #[.int .i64 0, .int .i64 0, .int .i64 0, .int .i64 0, .slice none 0 0, .slice none 0 0] 59)) = W at q0 q1 hB hS ⊢
  have HB := hid hB
  have Q0 := hid q0
  have Q1 := hid q1
  clear hB q0 q1
  refine (copiedRules_any p.outs oa oc W (rdRules.ext HB.out HB.out.size HO.out)).mono ?_
  rintro e w3 ⟨⟨a3, c3, rfl, _, hr3⟩, hb3⟩
  have HB3 := hid hb3
  have HR3 := hid hr3
  have hs3 := hb3.size
  have HQ3 := hid ((hb3.block w.heap.size (by omega)).trans Q0.out)
  have HRB3 := hid ((hb3.block (w.heap.size + 1) (by omega)).trans Q1.out)
  have j0 := blk_cell HQ3.out
  have j1 := blk_frozen HQ3.out
  clear hb3 hr3
  go_wp2_with fail
  have HX := hid (show Below w.heap.size w (w3.setCell ⟨w.heap.size, 4, none⟩ (.slice a3 p.outs.length c3)) from (HB.out.trans (HB3.out.mono HB.out.size)).setCell (Nat.le_refl _) _)
  refine (copiedRules_any p.ins ia ic _ (rdRules.ext HX.out HX.out.size HI.out)).mono ?_
  rintro e w4 ⟨⟨a4, c4, rfl, _, hr4⟩, hb4⟩
  have HB4 := hid hb4
  have HR4 := hid (show rdRules w4.heap.size (hide w4 (low w3.heap.size)) a4 p.ins by simpa only [World.size_setCell] using hr4)
  have hs4 : w3.heap.size ≤ w4.heap.size := by simpa only [World.size_setCell] using hb4.size
  have n4 := (hb4.block w.heap.size (by rw [World.size_setCell]; omega)).trans (set_blk HQ3.out 4 _)
  have l0 := blk_cell n4
  have l1 := blk_frozen n4
  have nr := (hb4.block (w.heap.size + 1) (by rw [World.size_setCell]; omega)).trans ((Below.heap_setCell _ _ _ _ (by show w.heap.size + 1 ≠ w.heap.size; omega)).trans HRB3.out)
  have l2 := blk_cell nr
  have l3 := blk_frozen nr
  clear hb4 hr4 n4 nr j0 j1
  go_wp2
  refine bodyPost_ret (v := .agg #[.int .i64 p.space, .int .i64 p.need, .int .i64 p.ban, .int .i64 p.ways, .slice a3 p.outs.length c3, .slice a4 p.ins.length c4]) (by simp [results, Tryz.results109, go_sem, l2]) rfl ⟨⟨a3, c3, a4, c4, rfl, ?_, ?_⟩, ?_⟩
  · refine rdRules.sub (Sub.trans ?_ (Sub.low (m := W.heap.size) (by omega))) (by simpa using hs4) HR3.out
    iterate 7 refine Sub.trans ?_ (Sub.set _ _ (by simp only [low, decide_eq_true_eq]; omega))
    exact (Sub.set _ _ (by simp only [low, decide_eq_true_eq]; omega)).trans (Sub.grow HB4.out)
  · refine rdRules.sub (Sub.trans ?_ (Sub.low (m := w3.heap.size) (by omega))) (by simp) HR4.out
    iterate 7 refine Sub.trans ?_ (Sub.set _ _ (by simp only [low, decide_eq_true_eq]; omega))
    exact Sub.refl _
  · iterate 7 refine Below.setCell ?_ (by simp) _
    exact HX.out.trans (HB4.out.mono HX.out.size)
set_option maxRecDepth 100000 in
set_option maxHeartbeats 4000000 in
theorem copied_any (c : DClu) (pa qa : Option Addr) (pc qc : Nat) (w : World) (hp : rdPods w.heap.size w pa c.pods) (hq : rdPols w.heap.size w qa c.pols) :
    Calls Tryz.prog 78 #[.agg #[.slice pa c.pods.length pc, .slice qa c.pols.length qc]] w
      fun e w' => (∃ v v', e = .returned (.agg #[v, v']) ∧ RdClu w'.heap.size (hide w' (low w.heap.size)) v v' c) ∧ Below w.heap.size w w' := by
  have HP := hid hp
  have HQ := hid hq
  have hlen := hp.1
  have hqlen := hq.1
  clear hp hq
  obtain ⟨ip0, hip, ipz0, ipz1, ipz2⟩ := info_parts info_pod
  obtain ⟨iq0, hiq, iqz0, iqz1, iqz2⟩ := info_parts info_pol
  go_enter Tryz.func78, Tryz.ntmps78
  go_upto_region 2 with fail
  have q0 : (((w.alloc (.cells #[.slice pa c.pods.length pc, .slice qa c.pols.length qc] 28)).alloc (.cells #[.slice none 0 0, .slice none 0 0] 28)).alloc (.cells #[.slice none 0 0, .slice none 0 0] 28)).heap[w.heap.size]? = some (.cells #[.slice pa c.pods.length pc, .slice qa c.pols.length qc] 28 (0, 0)) := (Below.heap_alloc _ _ _ (by simp only [World.size_alloc]; omega)).trans ((Below.heap_alloc _ _ _ (by simp)).trans (new_heap _ _))
  have q1 : (((w.alloc (.cells #[.slice pa c.pods.length pc, .slice qa c.pols.length qc] 28)).alloc (.cells #[.slice none 0 0, .slice none 0 0] 28)).alloc (.cells #[.slice none 0 0, .slice none 0 0] 28)).heap[w.heap.size + 1]? = some (.cells #[.slice none 0 0, .slice none 0 0] 28 (0, 0)) := by
    have := new_heap (w.alloc (.cells #[.slice pa c.pods.length pc, .slice qa c.pols.length qc] 28)) (.cells #[.slice none 0 0, .slice none 0 0] 28)
    simp only [World.size_alloc] at this
    exact (Below.heap_alloc _ _ _ (by simp)).trans this
  have q2 : (((w.alloc (.cells #[.slice pa c.pods.length pc, .slice qa c.pols.length qc] 28)).alloc (.cells #[.slice none 0 0, .slice none 0 0] 28)).alloc (.cells #[.slice none 0 0, .slice none 0 0] 28)).heap[w.heap.size + 1 + 1]? = some (.cells #[.slice none 0 0, .slice none 0 0] 28 (0, 0)) := by
    have := new_heap ((w.alloc (.cells #[.slice pa c.pods.length pc, .slice qa c.pols.length qc] 28)).alloc (.cells #[.slice none 0 0, .slice none 0 0] 28)) (.cells #[.slice none 0 0, .slice none 0 0] 28)
    simp only [World.size_alloc] at this
    exact this
  have hB : Below w.heap.size w (((w.alloc (.cells #[.slice pa c.pods.length pc, .slice qa c.pols.length qc] 28)).alloc (.cells #[.slice none 0 0, .slice none 0 0] 28)).alloc (.cells #[.slice none 0 0, .slice none 0 0] 28)) := (by repeat (first | exact Below.refl _ _ | assumption | apply Ext.alloc | apply Ext.drewN | apply Ext.drew | refine Ext.trans ?_ (by assumption)))
  have hS : w.heap.size + 1 + 1 < (((w.alloc (.cells #[.slice pa c.pods.length pc, .slice qa c.pols.length qc] 28)).alloc (.cells #[.slice none 0 0, .slice none 0 0] 28)).alloc (.cells #[.slice none 0 0, .slice none 0 0] 28)).heap.size := by simp only [World.size_alloc]; omega
  generalize (((w.alloc (.cells #[.slice pa c.pods.length pc, .slice qa c.pols.length qc] 28)).alloc (.cells #[.slice none 0 0, .slice none 0 0] 28)).alloc (.cells #[.slice none 0 0, .slice none 0 0] 28)) = W at q0 q1 q2 hB hS ⊢
  have hx1 : w.heap.size + 1 < w.heap.size + 1 + 1 := by omega
  generalize w.heap.size + 1 + 1 = xb at *
  have HB := hid hB
  have Q0 := hid q0
  have Q1 := hid q1
  have Q2 := hid q2
  have g0 : W.cell? ⟨xb, 0, none⟩ = some (.slice none 0 0) := (blk_cell q2 0).trans rfl
  have c0 : W.cell? ⟨w.heap.size, 0, none⟩ = some (.slice pa c.pods.length pc) := (blk_cell q0 0).trans rfl
  have HPW := hid (rdPods.ext hB hB.size HP.out)
  clear hB q0 q1 q2
  go_wp2_with (at_builtin; go_must (refine wpList_append_list _ rfl _ _ 25 rfl W.heap.size 54 ip0 _ 4 32 Tryz.underlying25 hip ipz0 ipz1 ipz2 rfl (by decide) (.slice none 0 0) 0 [] rfl (World.ownsRow_nil _ _ _ _) pa c.pods.length pc (c.pods.flatMap encPod) rfl (oflat_len (k := 4) (fun _ => rfl) _) (news_of (k := 4) (fun _ => rfl) (by decide) HPW.out (fun _ _ _ => ePod_cells)) (encPods_one _) (by unfold maxLen; omega) (by omega) (Nat.le_refl _) ?_; intro v w6 hown6 hg6; have hup6 : UpPods W.heap.size w6 v c.pods := ⟨by simpa using hown6, fun _ _ => trivial⟩; obtain ⟨va, vc, hv, hvc, hrp6⟩ := upPods_done hup6 (by omega); have hb6 : Below W.heap.size W w6 := ⟨hg6.os, hg6.tape, hg6.output, hg6.size, fun b hb => hg6.block b hb (fun e => by cases e)⟩; have HX6 := hid ((hb6.block xb (by omega)).trans Q2.out); have HUP6 := hid hup6; have HB6 := hid hb6; have hs6 := hb6.size; have hx0 : w6.cell? ⟨xb, 0, none⟩ = some (.slice none 0 0) := (blk_cell HX6.out 0).trans rfl; have hxf := blk_frozen HX6.out; have hnw : ¬ w.heap.size = xb := (by omega); have hnw2 : ¬ xb = w.heap.size := (by omega); have hc1 : w6.cell? ⟨w.heap.size, 1, none⟩ = some (.slice qa c.pols.length qc) := (blk_cell ((hb6.block w.heap.size (by omega)).trans Q0.out) 1).trans rfl; subst hv; clear hown6 hg6 hup6 hb6 hrp6 g0 c0))
  have m0 := set_blk HX6.out 0 (.slice va c.pods.length vc)
  have m0 : (w6.setCell ⟨xb, 0, none⟩ (.slice va c.pods.length vc)).heap[xb]? = some (.cells #[.slice va c.pods.length vc, .slice none 0 0] 28 (0, 0)) := m0
  have hup : UpPods W.heap.size (w6.setCell ⟨xb, 0, none⟩ (.slice va c.pods.length vc)) (.slice va c.pods.length vc) c.pods := HUP6.out.set NNo.mono _ _ (by show xb < W.heap.size; omega)
  have hBM : Below w.heap.size w (w6.setCell ⟨xb, 0, none⟩ (.slice va c.pods.length vc)) := (HB.out.trans (HB6.out.mono HB.out.size)).setCell (by show w.heap.size ≤ xb; omega) _
  have hMs : (w6.setCell ⟨xb, 0, none⟩ (.slice va c.pods.length vc)).heap.size = w6.heap.size := World.size_setCell _ _ _
  have hcM : (w6.setCell ⟨xb, 0, none⟩ (.slice va c.pods.length vc)).cell? ⟨w.heap.size, 1, none⟩ = some (.slice qa c.pols.length qc) := keep_far hc1 (by show xb ≠ w.heap.size; omega)
  have hrM : (w6.setCell ⟨xb, 0, none⟩ (.slice va c.pods.length vc)).heap[w.heap.size + 1]? = some (.cells #[.slice none 0 0, .slice none 0 0] 28 (0, 0)) := (Below.heap_setCell _ _ _ _ (by show w.heap.size + 1 ≠ xb; omega)).trans ((HB6.out.block _ (by omega)).trans Q1.out)
  generalize w6.setCell ⟨xb, 0, none⟩ (.slice va c.pods.length vc) = M at m0 hup hBM hMs hcM hrM ⊢
  have HUP := hid hup
  have HXM := hid m0
  have HBM := hid hBM
  have HRM := hid hrM
  clear m0 hup hBM hrM hx0 hxf hc1
  go_loopw [4] (fun i wr => ∃ (k : Nat) (v' : Value) (ys : List RPol), k ≤ c.pols.length ∧ i = .int .i64 k ∧ ys.map (·.d) = c.pols.take k ∧ wr.heap[xb]? = some (.cells #[.slice va c.pods.length vc, v'] 28 (0, 0)) ∧ UpPols M.heap.size wr v' ys ∧ M.grownBy wr (some xb)) (fun i _ => c.pols.length - (intOf i).toNat)
  case atStart => exact ⟨0, .slice none 0 0, [], Nat.zero_le _, rfl, rfl, HXM.out, Up.nil _ _, gb_refl _ _⟩
  case round =>
    obtain ⟨k, v', ys, hk, rfl, hys, hxb, hup, hg⟩ := hrel
    obtain ⟨wa, hwa⟩ : ∃ wa, wa = wr := ⟨_, rfl⟩
    subst hwa
    have hyl := cpy_len hys
    have HYS := hid hys
    have HU := hid hup
    have HXB := hid hxb
    have HG := hid hg
    have hsg := hg.size
    have HBw := hid (show Below w.heap.size w wa from HBM.out.trans (gb_low hg (by omega) (by omega)))
    have g0 : wa.cell? ⟨xb, 0, none⟩ = some (.slice va c.pods.length vc) := (blk_cell hxb 0).trans rfl
    have g1 : wa.cell? ⟨xb, 1, none⟩ = some v' := (blk_cell hxb 1).trans rfl
    have gf := blk_frozen hxb
    have d1 : wa.cell? ⟨w.heap.size, 1, none⟩ = some (.slice qa c.pols.length qc) := hg.cell hcM (fun e => by have := Option.some.inj e; simp only at this; omega)
    have HRA := hid ((hg.block (w.heap.size + 1) (by omega) (fun e => by cases e; omega)).trans HRM.out)
    have HVB := hid (show ∀ g, v'.ownBlock = some g → M.heap.size ≤ g from fun g h => (hup.lt g h).1)
    have HVL := hid (show ∀ g, v'.ownBlock = some g → g < wa.heap.size from fun g h => (hup.lt g h).2)
    clear hys hxb hup hg
    by_cases hlt : k < c.pols.length
    · obtain ⟨x, hxk⟩ : ∃ x, c.pols[k]? = some x := ⟨c.pols[k], by simp [hlt]⟩
      have HXK := hid hxk
      have z1 : (k : Int) < (c.pols.length : Int) := by omega
      obtain ⟨b, off, rfl, hb, e0, e1, e2, e3, ⟨oa, oc, e4, hro⟩, ia, ic, e5, hri⟩ := HQ.out.2 k x hxk
      have HRO := hid (rdRules.ext HBw.out HBw.out.size hro)
      have HRI := hid (rdRules.ext HBw.out HBw.out.size hri)
      have f0 := cell_to e0 HBw.out
      have f1 := cell_to e1 HBw.out
      have f2 := cell_to e2 HBw.out
      have f3 := cell_to e3 HBw.out
      have f4 := cell_to e4 HBw.out
      have f5 := cell_to e5 HBw.out
      clear hxk hro hri e0 e1 e2 e3 e4 e5
      go_wp2_with (first
        | (go_at_call 109; go_must (refine (copiedPolicy_any x oa ia oc ic wa HRO.out HRI.out).mono ?_); rintro e w2 ⟨⟨a2, c2, a2', c2', rfl, hr2, hr2'⟩, hb2⟩; have HB2 := hid hb2; have HR2 := hid hr2; have HR2' := hid hr2'; have hs2 := hb2.size; have HX2 := hid ((hb2.block xb (by omega)).trans HXB.out); have y1 : w2.cell? ⟨xb, 1, none⟩ = some v' := (blk_cell HX2.out 1).trans rfl; have yf := blk_frozen HX2.out; have HU2 := hid (HU.out.grow NPol.mono hb2); clear hb2 hr2 hr2' f0 f1 f2 f3 f4 f5 g0 g1 gf d1)
        | (at_builtin; go_must (refine wpList_append_own_at _ rfl _ _ 26 rfl M.heap.size 59 iq0 _ 6 80 Tryz.underlying26 hiq iqz0 iqz1 iqz2 rfl (by decide) _ _ _ rfl ((HU2.out.1.alloc (.cells #[.int .i64 x.space, .int .i64 x.need, .int .i64 x.ban, .int .i64 x.ways, .slice a2 x.outs.length c2, .slice a2' x.ins.length c2'] 59)).alloc (.cells #[.int .i64 x.space, .int .i64 x.need, .int .i64 x.ban, .int .i64 x.ways, .slice a2 x.outs.length c2, .slice a2' x.ins.length c2'] 59)) ⟨w2.heap.size + 1, 0, none⟩ 1 1 (encPol ⟨x, .slice a2 x.outs.length c2, .slice a2' x.ins.length c2'⟩) rfl rfl (cell_new_list2 w2 _ (encPol ⟨x, .slice a2 x.outs.length c2, .slice a2' x.ins.length c2'⟩) _) (by intro u hu; simp only [encPol, List.mem_cons, List.not_mem_nil, or_false] at hu; rcases hu with rfl | rfl | rfl | rfl | rfl | rfl <;> rfl) (by unfold maxLen; omega) (by omega) (by simp only [World.size_alloc]; omega) ?_); intro v3 w8 hown8 hg8 hnil8 hat8; obtain ⟨a8, c8, rfl, _, _⟩ := own_slice hown8; have t8 : w8.heap[xb]? = some (.cells #[.slice va c.pods.length vc, v'] 28 (0, 0)) := (hg8.block xb (by simp only [World.size_alloc]; omega) (fun e => by have := HVB.out _ e.symm; omega)).trans ((Below.heap_alloc _ _ _ (by simp only [World.size_alloc]; omega)).trans ((Below.heap_alloc _ _ _ (by omega)).trans HX2.out)); have y8 : w8.cell? ⟨xb, 1, none⟩ = some v' := (blk_cell t8 1).trans rfl; have yf8 := blk_frozen t8; have HT8 := hid t8; have HO8 := hid hown8; have HG8 := hid hg8; have HA8 := hid hat8; clear hown8 hg8 hnil8 hat8 t8))
      have hZ2 : Below w2.heap.size w2 ((w2.alloc (.cells #[.int .i64 x.space, .int .i64 x.need, .int .i64 x.ban, .int .i64 x.ways, .slice a2 x.outs.length c2, .slice a2' x.ins.length c2'] 59)).alloc (.cells #[.int .i64 x.space, .int .i64 x.need, .int .i64 x.ban, .int .i64 x.ways, .slice a2 x.outs.length c2, .slice a2' x.ins.length c2'] 59)) := (by repeat (first | exact Below.refl _ _ | assumption | apply Ext.alloc | apply Ext.drewN | apply Ext.drew | refine Ext.trans ?_ (by assumption)))
      have HZA := hid (show Below wa.heap.size wa ((w2.alloc (.cells #[.int .i64 x.space, .int .i64 x.need, .int .i64 x.ban, .int .i64 x.ways, .slice a2 x.outs.length c2, .slice a2' x.ins.length c2'] 59)).alloc (.cells #[.int .i64 x.space, .int .i64 x.need, .int .i64 x.ban, .int .i64 x.ways, .slice a2 x.outs.length c2, .slice a2' x.ins.length c2'] 59)) from HB2.out.trans (hZ2.mono HB2.out.size))
      refine ⟨⟨k + 1, _, ys ++ [⟨x, .slice a2 x.outs.length c2, .slice a2' x.ins.length c2'⟩], by omega, by go_num, cpy_take HYS.out HXK.out, (set_blk HT8.out 1 _).trans rfl, ?_, gb_set (gb_row (gb_below HG.out HZA.out) HG8.out HVB.out) 1 _⟩, by simp [intOf]; omega⟩
      have g1 : UpPols M.heap.size ((w2.alloc (.cells #[.int .i64 x.space, .int .i64 x.need, .int .i64 x.ban, .int .i64 x.ways, .slice a2 x.outs.length c2, .slice a2' x.ins.length c2'] 59)).alloc (.cells #[.int .i64 x.space, .int .i64 x.need, .int .i64 x.ban, .int .i64 x.ways, .slice a2 x.outs.length c2, .slice a2' x.ins.length c2'] 59)) v' ys := HU.out.grow NPol.mono HZA.out
      have g2 : NPol ((w2.alloc (.cells #[.int .i64 x.space, .int .i64 x.need, .int .i64 x.ban, .int .i64 x.ways, .slice a2 x.outs.length c2, .slice a2' x.ins.length c2'] 59)).alloc (.cells #[.int .i64 x.space, .int .i64 x.need, .int .i64 x.ban, .int .i64 x.ways, .slice a2 x.outs.length c2, .slice a2' x.ins.length c2'] 59)).heap.size (hide ((w2.alloc (.cells #[.int .i64 x.space, .int .i64 x.need, .int .i64 x.ban, .int .i64 x.ways, .slice a2 x.outs.length c2, .slice a2' x.ins.length c2'] 59)).alloc (.cells #[.int .i64 x.space, .int .i64 x.need, .int .i64 x.ban, .int .i64 x.ways, .slice a2 x.outs.length c2, .slice a2' x.ins.length c2'] 59)) (low wa.heap.size)) ⟨x, .slice a2 x.outs.length c2, .slice a2' x.ins.length c2'⟩ := ⟨⟨a2, c2, rfl, rdRules.sub (Sub.grow hZ2) hZ2.size HR2.out⟩, a2', c2', rfl, rdRules.sub (Sub.grow hZ2) hZ2.size HR2'.out⟩
      have g3 := Up.app NPol.mono g1 hsg (fun g hg => HVL.out g hg) g2 HO8.out HG8.out HA8.out
      exact g3.set NPol.mono ⟨xb, 1, none⟩ _ (by show xb < M.heap.size; omega)
    · have z1 : ¬ (k : Int) < (c.pols.length : Int) := by omega
      have he : c.pols.take k = c.pols := List.take_of_length_le (by omega)
      have hYS := HYS.out
      rw [he] at hYS
      obtain ⟨va', vc', hv', _, hrq⟩ := upPols_done HU.out (by omega)
      rw [hYS] at hv' hrq
      subst hv'
      obtain ⟨va2, vc2, hv2, _, hrp⟩ := upPods_done (HUP.out.gb0 NNo.mono HG.out (by omega)) (by omega)
      injection hv2 with h1 h2 h3
      subst h1 h3
      have r0 := blk_cell HRA.out
      have rf := blk_frozen HRA.out
      have HRQ := hid hrq
      have HRP := hid hrp
      clear he hYS hrq hrp h2
      go_wp2
      refine bodyPost_ret (v := .agg #[.slice va c.pods.length vc, .slice va' c.pols.length vc']) (by simp [results, Tryz.results78, go_sem, r0]) rfl ⟨⟨_, _, rfl, va, vc, va', vc', rfl, rfl, ?_, ?_⟩, ?_⟩
      · refine rdPods.sub (Sub.trans ?_ (Sub.low (m := W.heap.size) (by have := HB.out.size; omega))) (by simp) HRP.out
        iterate 2 refine Sub.trans ?_ (Sub.set _ _ (by simp only [low, decide_eq_true_eq]; omega))
        exact Sub.refl _
      · refine rdPols.sub (Sub.trans ?_ (Sub.low (m := M.heap.size) (by have := HB.out.size; omega))) (by simp) HRQ.out
        iterate 2 refine Sub.trans ?_ (Sub.set _ _ (by simp only [low, decide_eq_true_eq]; omega))
        exact Sub.refl _
      · exact (HBw.out.setCell (by simp) _).setCell (by simp) _
end Go.Proofs.YtmkjlhplgcifiaaGreat
namespace Go.Proofs.YtmkjlhplgcifiaaGreat
open Go.ChangeShapes Go.WideShapes Go.ChangeAt Go.RowKit
attribute [local simp] World.cell?_grow
attribute [local go_sem] World.cell?_grow
attribute [local simp] World.cell?_alloc_there
attribute [local go_sem] World.cell?_alloc_there
attribute [local go_sem] eqg_blk std_blk eqg_pod std_pod eqg_sel std_sel eqg_prt std_prt
attribute [local go_sem ↓] eql_blk eql_sel neq_sel eql_prt eql_pod
attribute [local go_sem ↓] met_in1 met_in2 met_re1 met_re2
attribute [local go_sem ↓] met_has1 met_has2
attribute [local go_sem ↓] met_bl1 met_bl2
attribute [local go_sem] eqg_row std_row
attribute [local go_sem ↓] neq_row
set_option linter.unusedVariables false
set_option linter.unusedSimpArgs false
/-- the cells of a list of one row, n times -/
def marks (r : DRow) (n : Nat) : List Value := (List.replicate n r).flatMap encRow
theorem marks_len (r : DRow) (n : Nat) : (marks r n).length = n * 8 := by rw [marks, oflat_len (k := 8) (fun _ => rfl)]; simp
theorem marks_get (r : DRow) (n j : Nat) (h : j < n * 8) : (marks r n)[j]? = (encRow r)[j % 8]? := by
  have h1 := oflat_get (k := 8) (enc := encRow) (fun _ => rfl) (List.replicate n r) (j / 8) r (j % 8) (by rw [List.getElem?_replicate, if_pos (by omega)]) (Nat.mod_lt _ (by decide))
  rw [Nat.div_add_mod' j 8] at h1
  exact h1
theorem marks_of {cur : Array Value} {n : Nat} {r : DRow} (hs : n * 8 ≤ cur.size) (h : ∀ j, j < n * 8 → cur[j]? = (encRow r)[j % 8]?) : cur.toList.take (n * 8) = marks r n := by
  apply List.ext_getElem?
  intro j
  by_cases hj : j < n * 8
  · rw [List.getElem?_take, if_pos hj, marks_get r n j hj, ← h j hj, Array.getElem?_toList]
  · rw [List.getElem?_eq_none (by rw [List.length_take]; omega), List.getElem?_eq_none (by rw [marks_len]; omega)]
theorem of_marks {cur : Array Value} {n : Nat} {r : DRow} (h : cur.toList.take (n * 8) = marks r n) : ∀ j, j < n * 8 → cur[j]? = (encRow r)[j % 8]? := by
  intro j hj
  rw [← marks_get r n j hj, ← h, List.getElem?_take, if_pos hj, Array.getElem?_toList]
theorem set8_get (cur : Array Value) (o : Nat) (m0 m1 m2 m3 m4 m5 m6 m7 : Value) (ho : o + 8 ≤ cur.size) (j : Nat) :
    ((((((((cur.setIfInBounds o m0).setIfInBounds (o + 1) m1).setIfInBounds (o + 2) m2).setIfInBounds (o + 3) m3).setIfInBounds (o + 4) m4).setIfInBounds (o + 5) m5).setIfInBounds (o + 6) m6).setIfInBounds (o + 7) m7)[j]? =
      if j < o then cur[j]? else if j < o + 8 then [m0, m1, m2, m3, m4, m5, m6, m7][j - o]? else cur[j]? := by
  simp only [Array.getElem?_setIfInBounds, Array.size_setIfInBounds]
  by_cases h1 : j < o
  · rw [if_pos h1]
    simp only [show ¬ o = j by omega, show ¬ o + 1 = j by omega, show ¬ o + 2 = j by omega, show ¬ o + 3 = j by omega, show ¬ o + 4 = j by omega, show ¬ o + 5 = j by omega, show ¬ o + 6 = j by omega, show ¬ o + 7 = j by omega, if_false]
  · rw [if_neg h1]
    by_cases h2 : j < o + 8
    · rw [if_pos h2]
      rcases (show j = o ∨ j = o + 1 ∨ j = o + 2 ∨ j = o + 3 ∨ j = o + 4 ∨ j = o + 5 ∨ j = o + 6 ∨ j = o + 7 by omega) with rfl | rfl | rfl | rfl | rfl | rfl | rfl | rfl <;> simp <;> omega
    · rw [if_neg h2]
      simp only [show ¬ o = j by omega, show ¬ o + 1 = j by omega, show ¬ o + 2 = j by omega, show ¬ o + 3 = j by omega, show ¬ o + 4 = j by omega, show ¬ o + 5 = j by omega, show ¬ o + 6 = j by omega, show ¬ o + 7 = j by omega, if_false]
/-- a list of marks, appended to one of the same marks: every list of these marks stays one -/
theorem run_append_marks {P : Program} (w : World) (base : Nat) (t ty e : TypeId) (i : TypeInfo) (z : Value) (bytes : Nat) (ht : P.underlying t = some (.slice e)) (hi : P.info? e = some i) (hz : i.zero = some z)
    (hsize : i.size = 8) (hby : i.bytes = bytes) (hzs : z.cells.size = 8) (r : DRow) (v : Value) (n : Nat) (hown : w.ownsRow base e 8 v n (marks r n))
    (a : Addr) (m c : Nat) (hnews : ∀ j u, (marks r m)[j]? = some u → w.cell? (a.add j) = some u) (h63 : n + m ≤ maxLen) (hbytes : (n + m) * bytes ≤ 140737488355328) (hbase : base ≤ w.heap.size) :
    ∃ v' w', (Builtin.append_ #[t, t] ty #[v, .slice (some a) m c]).run P w = .ok v' w' ∧ w'.ownsRow base e 8 v' (n + m) (marks r (n + m)) ∧ w.grownBy w' v.ownBlock ∧ (v'.ownBlock = v.ownBlock ∨ v'.ownBlock = some w.heap.size) ∧
      ∀ u k, w.ownsRow base e 8 u k (marks r k) → w'.ownsRow base e 8 u k (marks r k) := by
  have hone : ∀ u ∈ marks r m, u.oneCell' = true := by
    intro u hu
    simp only [marks, List.mem_flatMap] at hu
    obtain ⟨x, _, hu⟩ := hu
    simp only [encRow, List.mem_cons, List.not_mem_nil, or_false] at hu
    rcases hu with rfl | rfl | rfl | rfl | rfl | rfl | rfl | rfl <;> rfl
  have happ : marks r n ++ marks r m = marks r (n + m) := by rw [marks, marks, marks, ← List.flatMap_append, List.replicate_append_replicate]
  obtain ⟨v', w', hr, h2, h3, h4, h5⟩ := run_append_own_at (P := P) w base t ty e i z 8 bytes ht hi hz hsize hby hzs (by decide) v n (marks r n) hown a m c (marks r m) (marks_len r m) hnews hone h63 hbytes hbase
  rw [happ] at h2
  refine ⟨v', w', hr, h2, h3, h5, fun u k hu => ?_⟩
  have hu0 := hu
  obtain ⟨hl, h | ⟨g, cap, cur, rfl, hb, hg, hk, hc, hs, ht2⟩⟩ := hu
  · exact ⟨hl, .inl h⟩
  have hgl : g < w.heap.size := (Array.getElem?_eq_some_iff.1 hg).1
  by_cases hv : v.ownBlock = some g
  · -- the same block: it was written in place, or left as it was
    obtain ⟨hvl, h | ⟨g2, cap2, cur2, rfl, hb2, hg2, hk2, hc2, hs2, ht3⟩⟩ := hown
    · rw [h.1] at hv; cases hv
    · have : g2 = g := by simpa [Value.ownBlock] using hv
      subst this
      rw [hg] at hg2
      cases hg2
      by_cases hroom : n + m ≤ cap2
      · have hfit : n * i.size + (marks r m).length ≤ cur.size := by rw [marks_len, hsize, hs2, ← Nat.add_mul]; exact Nat.mul_le_mul_right _ hroom
        have hrr := run_append_room (P := P) w t ty e i ht hi g2 n cap2 cur hg a m c (marks r m) (by rw [marks_len, hsize]) hnews hone hroom hfit
        rw [hrr] at hr
        cases hr
        refine ⟨hl, .inr ⟨g2, cap, _, rfl, hb, setRow_heap w g2 cur _ e _ hg, hk, hc, ?_, ?_⟩⟩
        · rw [← hs]
          simp only [List.size_toArray, List.length_append, List.length_take, List.length_drop, Array.length_toList]
          omega
        · refine marks_of ?_ fun j hj => ?_
          · have : k * 8 ≤ cap * 8 := Nat.mul_le_mul_right _ hk
            simp only [List.size_toArray, List.length_append, List.length_take, List.length_drop, Array.length_toList]
            omega
          · have hcur := of_marks ht2 j hj
            rw [marks_len, hsize] at hfit
            simp only [List.getElem?_toArray, marks_len, hsize]
            by_cases h1 : j < n * 8
            · rw [List.append_assoc, List.getElem?_append_left (by rw [List.length_take, Array.length_toList]; omega), List.getElem?_take, if_pos h1, Array.getElem?_toList]
              exact hcur
            · by_cases h2 : j < n * 8 + m * 8
              · rw [List.append_assoc, List.getElem?_append_right (by rw [List.length_take, Array.length_toList]; omega), List.length_take, Array.length_toList, Nat.min_eq_left (by omega), List.getElem?_append_left (by rw [marks_len]; omega), marks_get r m _ (by omega)]
                congr 1
                omega
              · rw [List.getElem?_append_right (by rw [List.length_append, List.length_take, Array.length_toList, marks_len]; omega), List.length_append, List.length_take, Array.length_toList, marks_len, Nat.min_eq_left (by omega), List.getElem?_drop, Array.getElem?_toList]
                rw [← hcur]
                congr 1
                omega
      · have holds : ∀ j u, (marks r n)[j]? = some u → w.cell? ((⟨g2, 0, none⟩ : Addr).add j) = some u := (show w.ownsRow base e 8 (.slice (some ⟨g2, 0, none⟩) n cap2) n (marks r n) from ⟨hvl, .inr ⟨g2, cap2, cur, rfl, hb2, hg, hk2, hc2, hs2, ht3⟩⟩).cells (g := g2) rfl
        have hrr := run_append_grow (P := P) w t ty e i z ht hi hz ⟨g2, 0, none⟩ n cap2 (marks r n) (by rw [marks_len, hsize]) holds a m c (marks r m) (by rw [marks_len, hsize]) hnews (by omega) (by simp only [maxLen] at h63; omega) (by rw [hby]; exact growslice_fits (by omega) hbytes)
        rw [hrr] at hr
        cases hr
        exact ⟨hl, .inr ⟨g2, cap, cur, rfl, hb, (Below.heap_alloc w.drew _ g2 hgl).trans hg, hk, hc, hs, ht2⟩⟩
  · exact ⟨hl, .inr ⟨g, cap, cur, rfl, hb, (h3.block g hgl (fun e => hv e.symm)).trans hg, hk, hc, hs, ht2⟩⟩
end Go.Proofs.YtmkjlhplgcifiaaGreat
