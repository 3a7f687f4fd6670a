/-
  palisadelaw: World.compiled, walked: a cluster that is not right.
-/
import Derived.Test.YtmkjlhplgcifiaaGreatH40
import Derived.Test.YtmkjlhplgcifiaaGreatH27
import Derived.Test.YtmkjlhplgcifiaaGreatH39
import Derived.Test.YtmkjlhplgcifiaaGreatH29
import Derived.Deep.RegionLaw
namespace Go.Proofs.YtmkjlhplgcifiaaGreat
open Go.ChangeShapes Go.WideShapes Go.ChangeAt Go.RowKit
set_option linter.unusedVariables false
set_option linter.unusedSimpArgs false
attribute [local simp] World.cell?_grow World.cell?_alloc_there
attribute [local go_sem] World.cell?_grow World.cell?_alloc_there eqg_blk std_blk eqg_pod std_pod eqg_sel std_sel eqg_prt std_prt eqg_row std_row
attribute [local go_sem ↓] eql_blk eql_sel neq_sel eql_prt eql_pod met_in1 met_in2 met_re1 met_re2 met_has1 met_has2 met_bl1 met_bl2 neq_row
set_option maxRecDepth 100000 in
set_option maxHeartbeats 2000000 in
theorem compiled_err (wb : Nat) (c : DClu) (pa qa : Option Addr) (pc qc : Nat) (w : World) (hp : rdPods w.heap.size w pa c.pods) (hq : rdPols w.heap.size w qa c.pols) (hr : ¬ (right c).1 = 0) :
    Calls Tryz.prog 49 #[.pointer (some ⟨wb, 0, none⟩), .agg #[.slice pa c.pods.length pc, .slice qa c.pols.length qc]] w fun e w' => e = .returned (.bool true) ∧ Below w.heap.size w w' := by
  have HP := hid hp
  have HQ := hid hq
  clear hp hq
  go_enter Tryz.func49, Tryz.ntmps49
  go_wp2_with fail
  generalize hW : w.alloc (Obj.cells #[.slice pa c.pods.length pc, .slice qa c.pols.length qc] 28) = W
  have hsW : W.heap.size = w.heap.size + 1 := by rw [← hW]; simp
  have HBW := hid (show Below w.heap.size w W from by rw [← hW]; exact bel)
  have a4 : W.cell? ⟨w.heap.size, 0, none⟩ = some (.slice pa c.pods.length pc) := by rw [← hW]; simp [go_sem]
  have a5 : W.cell? ⟨w.heap.size, 1, none⟩ = some (.slice qa c.pols.length qc) := by rw [← hW]; simp [go_sem]
  clear hW
  refine (lent_any c pa qa pc qc W (rdPods.to HP.out HBW.out) (rdPols.to HQ.out HBW.out)).mono ?_
  rintro e w1 ⟨m, sa, sn, sc, ta, tn, tc, rfl, hm1, hm2, hl1, hl2, hb1⟩
  obtain ⟨ss, cc, e1, hcc, hr1⟩ := hl1.rd HP.out.1 (B := w1.heap.size) hm2
  obtain ⟨tt, dd, e2, hr2⟩ := hl2.rd HQ.out (B := w1.heap.size) (Nat.le_refl _)
  cases e1
  cases e2
  have HL1 := hid hl1
  have HL2 := hid hl2
  have HR1 := hid hr1
  have HR2 := hid hr2
  have HB1 := hid hb1
  have hs1 := hb1.size
  have b4 : ∀ o, (w1.alloc o).cell? ⟨w.heap.size, 0, none⟩ = some (.slice pa c.pods.length pc) := fun o => cell_past (cell_to a4 hb1)
  have b5 : ∀ o, (w1.alloc o).cell? ⟨w.heap.size, 1, none⟩ = some (.slice qa c.pols.length qc) := fun o => cell_past (cell_to a5 hb1)
  clear hl1 hl2 hr1 hr2 hb1 a4 a5
  go_wp2_with fail
  generalize hX : w1.alloc (Obj.cells #[.slice sa c.pods.length sc, .slice ta c.pols.length tc] 28) = X
  have hsX : X.heap.size = w1.heap.size + 1 := by rw [← hX]; simp
  have HBX := hid (show Below w1.heap.size w1 X from by rw [← hX]; exact bel)
  have h0 : X.cell? ⟨w1.heap.size, 0, none⟩ = some (.slice sa c.pods.length sc) := by rw [← hX]; simp [go_sem]
  have h1 : X.cell? ⟨w1.heap.size, 1, none⟩ = some (.slice ta c.pols.length tc) := by rw [← hX]; simp [go_sem]
  have q4 : X.cell? ⟨w.heap.size, 0, none⟩ = some (.slice pa c.pods.length pc) := by rw [← hX]; exact b4 _
  have q5 : X.cell? ⟨w.heap.size, 1, none⟩ = some (.slice qa c.pols.length qc) := by rw [← hX]; exact b5 _
  clear hX b4 b5
  refine (compile_err c sa ta sc tc X (rdPods.ext HBX.out (by omega) HR1.out) (rdPols.ext HBX.out (by omega) HR2.out) hcc hr).mono ?_
  rintro e w2 ⟨rfl, hb2⟩
  have HB2 := hid hb2
  have hs2 := hb2.size
  have i0 := cell_to h0 hb2
  have i1 := cell_to h1 hb2
  have r4 := cell_to q4 hb2
  have r5 := cell_to q5 hb2
  have HB12 := hid (Ext.trans HBX.out hb2)
  clear hb2 h0 h1 q4 q5
  go_wp2_with fail
  have hBB : Below w.heap.size w w2 := Ext.trans (Ext.trans HBW.out HB1.out) HB12.out
  refine (back_any c pa qa pc qc sa ta c.pods.length sc c.pols.length tc w.heap.size W.heap.size m w1.heap.size w2 (rdPods.ext hBB (Nat.le_refl _) HP.out) (rdPols.ext hBB (Nat.le_refl _) HQ.out) (by omega) hm1 hm2 HB12.out.size (HL1.out.heap fun j x1 x2 => HB12.out.block j (by omega)) (lnPols.fwd (B := w.heap.size) (rdPols.ext HBW.out (Nat.le_refl _) HQ.out) ((Ext.trans HB1.out HB12.out).mono (by omega)) (HL2.out.heap fun j x1 x2 => HB12.out.block j (by omega)))).mono ?_
  rintro e w3 ⟨rfl, hon⟩
  have hB3 : Below w.heap.size w w3 := hBB.trans (hon.below (by omega) (by omega))
  have hs3 := hon.2.1
  have u4 := hon.cell r4 (by omega)
  have u5 := hon.cell r5 (by omega)
  have HON := hid hon
  clear i0 i1 hon r4 r5
  go_wp2_with fail
  refine (refRight_any c pa qa pc qc w3 (rdPods.to HP.out hB3) (rdPols.to HQ.out hB3)).mono ?_
  rintro e w4 ⟨rfl, hb4⟩
  have HB4 := hid (Ext.trans hB3 hb4)
  clear hb4 u4 u5
  generalize (right c).1 = g1 at *
  generalize (right c).2 = g2 at *
  go_wp2_with fail
  refine (num_any g1 _).mono ?_
  rintro e w5 ⟨rfl, rfl⟩
  have hg1 : (g1 != 0) = true := by simpa using hr
  go_wp2
  go_ret
  exact ⟨rfl, HB4.out⟩
def encPair (p : Nat × Nat) : List Value := [.pointer (some ⟨p.1, 0, none⟩), .pointer (some ⟨p.2, 0, none⟩)]
theorem heap_new (w : World) (o : Obj) : (w.alloc o).heap[w.heap.size]? = some o := by simp [- World.alloc_eq, World.alloc]
theorem right_zero2 {c : DClu} (h : (right c).1 = 0) : (right c).2 = 0 := by
  unfold right at h ⊢
  by_cases h1 : 8 < c.pods.length ∨ 4 < c.pols.length
  · rw [if_pos h1]
  · rw [if_neg h1] at h ⊢
    revert h
    cases firstBad (podGood c.pods) c.pods.length <;> cases firstBad (polGood c.pols) c.pols.length <;> simp
theorem info_pair : (Tryz.prog.info? 119).map (fun i => (i.zero, i.size, i.bytes)) = some (some (.agg #[.pointer none, .pointer none]), 2, 16) := by kernel_rfl
theorem own_lower {w : World} {base base' : Nat} {e : TypeId} {size : Nat} {v : Value} {n : Nat} {xs : List Value} (h : w.ownsRow base e size v n xs) (hb : base' ≤ base) : w.ownsRow base' e size v n xs := by
  obtain ⟨h1, h2 | ⟨g, cap, cur, e1, b, c⟩⟩ := h
  · exact ⟨h1, .inl h2⟩
  · exact ⟨h1, .inr ⟨g, cap, cur, e1, Nat.le_trans hb b, c⟩⟩
theorem Up.lower {X : Type} {e : TypeId} {k : Nat} {enc : X → List Value} {N : Nat → World → X → Prop} {base base' : Nat} {w : World} {v : Value} {ys : List X} (h : Up e k enc N base w v ys) (hN : Mono N) (hb : base' ≤ base) : Up e k enc N base' w v ys :=
  ⟨own_lower h.1 hb, fun y hy => hN _ _ _ _ y (Sub.hide fun b _ hG => ⟨lowOr_false.2 ⟨Nat.le_trans hb (lowOr_false.1 hG).1, (lowOr_false.1 hG).2⟩, rfl⟩) (Nat.le_refl _) (h.2 y hy)⟩
def CopOwn (base : Nat) (w : World) (v v' : Value) (c : DClu) : Prop :=
  ∃ m, base ≤ m ∧ (∀ g, v.ownBlock = some g → g < m) ∧ UpPods base w v c.pods ∧ ∃ ys : List RPol, ys.map (·.d) = c.pols ∧ UpPols m w v' ys
set_option maxRecDepth 100000 in
set_option maxHeartbeats 4000000 in
theorem copied_own (c : DClu) (pa qa : Option Addr) (pc qc : Nat) (w : World) (hp : rdPods w.heap.size w pa c.pods) (hq : rdPols w.heap.size w qa c.pols) :
    Calls Tryz.prog 78 #[.agg #[.slice pa c.pods.length pc, .slice qa c.pols.length qc]] w
      fun e w' => (∃ v v', e = .returned (.agg #[v, v']) ∧ CopOwn w.heap.size w' v v' c) ∧ Below w.heap.size w w' := by
  have HP := hid hp
  have HQ := hid hq
  have hlen := hp.1
  have hqlen := hq.1
  clear hp hq
  obtain ⟨ip0, hip, ipz0, ipz1, ipz2⟩ := info_parts info_pod
  obtain ⟨iq0, hiq, iqz0, iqz1, iqz2⟩ := info_parts info_pol
  go_enter Tryz.func78, Tryz.ntmps78
  go_upto_region 2 with fail
  have q0 : (((w.alloc (.cells #[.slice pa c.pods.length pc, .slice qa c.pols.length qc] 28)).alloc (.cells #[.slice none 0 0, .slice none 0 0] 28)).alloc (.cells #[.slice none 0 0, .slice none 0 0] 28)).heap[w.heap.size]? = some (.cells #[.slice pa c.pods.length pc, .slice qa c.pols.length qc] 28 (0, 0)) := (Below.heap_alloc _ _ _ (by simp only [World.size_alloc]; omega)).trans ((Below.heap_alloc _ _ _ (by simp)).trans (new_heap _ _))
  have q1 : (((w.alloc (.cells #[.slice pa c.pods.length pc, .slice qa c.pols.length qc] 28)).alloc (.cells #[.slice none 0 0, .slice none 0 0] 28)).alloc (.cells #[.slice none 0 0, .slice none 0 0] 28)).heap[w.heap.size + 1]? = some (.cells #[.slice none 0 0, .slice none 0 0] 28 (0, 0)) := by
    have := new_heap (w.alloc (.cells #[.slice pa c.pods.length pc, .slice qa c.pols.length qc] 28)) (.cells #[.slice none 0 0, .slice none 0 0] 28)
    simp only [World.size_alloc] at this
    exact (Below.heap_alloc _ _ _ (by simp)).trans this
  have q2 : (((w.alloc (.cells #[.slice pa c.pods.length pc, .slice qa c.pols.length qc] 28)).alloc (.cells #[.slice none 0 0, .slice none 0 0] 28)).alloc (.cells #[.slice none 0 0, .slice none 0 0] 28)).heap[w.heap.size + 1 + 1]? = some (.cells #[.slice none 0 0, .slice none 0 0] 28 (0, 0)) := by
    have := new_heap ((w.alloc (.cells #[.slice pa c.pods.length pc, .slice qa c.pols.length qc] 28)).alloc (.cells #[.slice none 0 0, .slice none 0 0] 28)) (.cells #[.slice none 0 0, .slice none 0 0] 28)
    simp only [World.size_alloc] at this
    exact this
  have hB : Below w.heap.size w (((w.alloc (.cells #[.slice pa c.pods.length pc, .slice qa c.pols.length qc] 28)).alloc (.cells #[.slice none 0 0, .slice none 0 0] 28)).alloc (.cells #[.slice none 0 0, .slice none 0 0] 28)) := bel
  have hS : w.heap.size + 1 + 1 < (((w.alloc (.cells #[.slice pa c.pods.length pc, .slice qa c.pols.length qc] 28)).alloc (.cells #[.slice none 0 0, .slice none 0 0] 28)).alloc (.cells #[.slice none 0 0, .slice none 0 0] 28)).heap.size := by simp only [World.size_alloc]; omega
  generalize (((w.alloc (.cells #[.slice pa c.pods.length pc, .slice qa c.pols.length qc] 28)).alloc (.cells #[.slice none 0 0, .slice none 0 0] 28)).alloc (.cells #[.slice none 0 0, .slice none 0 0] 28)) = W at q0 q1 q2 hB hS ⊢
  have hx1 : w.heap.size + 1 < w.heap.size + 1 + 1 := by omega
  generalize w.heap.size + 1 + 1 = xb at *
  have HB := hid hB
  have Q0 := hid q0
  have Q1 := hid q1
  have Q2 := hid q2
  have g0 : W.cell? ⟨xb, 0, none⟩ = some (.slice none 0 0) := (blk_cell q2 0).trans rfl
  have c0 : W.cell? ⟨w.heap.size, 0, none⟩ = some (.slice pa c.pods.length pc) := (blk_cell q0 0).trans rfl
  have HPW := hid (rdPods.ext hB hB.size HP.out)
  clear hB q0 q1 q2
  go_wp2_with (at_builtin; go_must (refine wpList_append_list _ rfl _ _ 25 rfl W.heap.size 54 ip0 _ 4 32 Tryz.underlying25 hip ipz0 ipz1 ipz2 rfl (by decide) (.slice none 0 0) 0 [] rfl (World.ownsRow_nil _ _ _ _) pa c.pods.length pc (c.pods.flatMap encPod) rfl (oflat_len (k := 4) (fun _ => rfl) _) (news_of (k := 4) (fun _ => rfl) (by decide) HPW.out (fun _ _ _ => ePod_cells)) (encPods_one _) (by unfold maxLen; omega) (by omega) (Nat.le_refl _) ?_; intro v w6 hown6 hg6; have hup6 : UpPods W.heap.size w6 v c.pods := ⟨by simpa using hown6, fun _ _ => trivial⟩; obtain ⟨va, vc, hv, hvc, hrp6⟩ := upPods_done hup6 (by omega); have hb6 : Below W.heap.size W w6 := ⟨hg6.os, hg6.tape, hg6.output, hg6.size, fun b hb => hg6.block b hb (fun e => by cases e)⟩; have HX6 := hid ((hb6.block xb (by omega)).trans Q2.out); have HUP6 := hid hup6; have HB6 := hid hb6; have hs6 := hb6.size; have hx0 : w6.cell? ⟨xb, 0, none⟩ = some (.slice none 0 0) := (blk_cell HX6.out 0).trans rfl; have hxf := blk_frozen HX6.out; have hnw : ¬ w.heap.size = xb := (by omega); have hnw2 : ¬ xb = w.heap.size := (by omega); have hc1 : w6.cell? ⟨w.heap.size, 1, none⟩ = some (.slice qa c.pols.length qc) := (blk_cell ((hb6.block w.heap.size (by omega)).trans Q0.out) 1).trans rfl; subst hv; clear hown6 hg6 hup6 hb6 hrp6 g0 c0))
  have m0 := set_blk HX6.out 0 (.slice va c.pods.length vc)
  have m0 : (w6.setCell ⟨xb, 0, none⟩ (.slice va c.pods.length vc)).heap[xb]? = some (.cells #[.slice va c.pods.length vc, .slice none 0 0] 28 (0, 0)) := m0
  have hup : UpPods W.heap.size (w6.setCell ⟨xb, 0, none⟩ (.slice va c.pods.length vc)) (.slice va c.pods.length vc) c.pods := HUP6.out.set NNo.mono _ _ (by show xb < W.heap.size; omega)
  have hBM : Below w.heap.size w (w6.setCell ⟨xb, 0, none⟩ (.slice va c.pods.length vc)) := (HB.out.trans (HB6.out.mono HB.out.size)).setCell (by show w.heap.size ≤ xb; omega) _
  have hMs : (w6.setCell ⟨xb, 0, none⟩ (.slice va c.pods.length vc)).heap.size = w6.heap.size := World.size_setCell _ _ _
  have hcM : (w6.setCell ⟨xb, 0, none⟩ (.slice va c.pods.length vc)).cell? ⟨w.heap.size, 1, none⟩ = some (.slice qa c.pols.length qc) := keep_far hc1 (by show xb ≠ w.heap.size; omega)
  have hrM : (w6.setCell ⟨xb, 0, none⟩ (.slice va c.pods.length vc)).heap[w.heap.size + 1]? = some (.cells #[.slice none 0 0, .slice none 0 0] 28 (0, 0)) := (Below.heap_setCell _ _ _ _ (by show w.heap.size + 1 ≠ xb; omega)).trans ((HB6.out.block _ (by omega)).trans Q1.out)
  generalize w6.setCell ⟨xb, 0, none⟩ (.slice va c.pods.length vc) = M at m0 hup hBM hMs hcM hrM ⊢
  have HUP := hid hup
  have HXM := hid m0
  have HBM := hid hBM
  have HRM := hid hrM
  clear m0 hup hBM hrM hx0 hxf hc1
  go_loopw [4] (fun i wr => ∃ (k : Nat) (v' : Value) (ys : List RPol), k ≤ c.pols.length ∧ i = .int .i64 k ∧ ys.map (·.d) = c.pols.take k ∧ wr.heap[xb]? = some (.cells #[.slice va c.pods.length vc, v'] 28 (0, 0)) ∧ UpPols M.heap.size wr v' ys ∧ M.grownBy wr (some xb)) (fun i _ => c.pols.length - (intOf i).toNat)
  case atStart => exact ⟨0, .slice none 0 0, [], Nat.zero_le _, rfl, rfl, HXM.out, Up.nil _ _, gb_refl _ _⟩
  case round =>
    obtain ⟨k, v', ys, hk, rfl, hys, hxb, hup, hg⟩ := hrel
    obtain ⟨wa, hwa⟩ : ∃ wa, wa = wr := ⟨_, rfl⟩
    subst hwa
    have hyl := cpy_len hys
    have HYS := hid hys
    have HU := hid hup
    have HXB := hid hxb
    have HG := hid hg
    have hsg := hg.size
    have HBw := hid (show Below w.heap.size w wa from HBM.out.trans (gb_low hg (by omega) (by omega)))
    have g0 : wa.cell? ⟨xb, 0, none⟩ = some (.slice va c.pods.length vc) := (blk_cell hxb 0).trans rfl
    have g1 : wa.cell? ⟨xb, 1, none⟩ = some v' := (blk_cell hxb 1).trans rfl
    have gf := blk_frozen hxb
    have d1 : wa.cell? ⟨w.heap.size, 1, none⟩ = some (.slice qa c.pols.length qc) := hg.cell hcM (fun e => by have := Option.some.inj e; simp only at this; omega)
    have HRA := hid ((hg.block (w.heap.size + 1) (by omega) (fun e => by cases e; omega)).trans HRM.out)
    have HVB := hid (show ∀ g, v'.ownBlock = some g → M.heap.size ≤ g from fun g h => (hup.lt g h).1)
    have HVL := hid (show ∀ g, v'.ownBlock = some g → g < wa.heap.size from fun g h => (hup.lt g h).2)
    clear hys hxb hup hg
    by_cases hlt : k < c.pols.length
    · obtain ⟨x, hxk⟩ : ∃ x, c.pols[k]? = some x := ⟨c.pols[k], by simp [hlt]⟩
      have HXK := hid hxk
      have z1 : (k : Int) < (c.pols.length : Int) := by omega
      obtain ⟨b, off, rfl, hb, e0, e1, e2, e3, ⟨oa, oc, e4, hro⟩, ia, ic, e5, hri⟩ := HQ.out.2 k x hxk
      have HRO := hid (rdRules.ext HBw.out HBw.out.size hro)
      have HRI := hid (rdRules.ext HBw.out HBw.out.size hri)
      have f0 := cell_to e0 HBw.out
      have f1 := cell_to e1 HBw.out
      have f2 := cell_to e2 HBw.out
      have f3 := cell_to e3 HBw.out
      have f4 := cell_to e4 HBw.out
      have f5 := cell_to e5 HBw.out
      clear hxk hro hri e0 e1 e2 e3 e4 e5
      go_wp2_with (first
        | (go_at_call 109; go_must (refine (copiedPolicy_any x oa ia oc ic wa HRO.out HRI.out).mono ?_); rintro e w2 ⟨⟨a2, c2, a2', c2', rfl, hr2, hr2'⟩, hb2⟩; have HB2 := hid hb2; have HR2 := hid hr2; have HR2' := hid hr2'; have hs2 := hb2.size; have HX2 := hid ((hb2.block xb (by omega)).trans HXB.out); have y1 : w2.cell? ⟨xb, 1, none⟩ = some v' := (blk_cell HX2.out 1).trans rfl; have yf := blk_frozen HX2.out; have HU2 := hid (HU.out.grow NPol.mono hb2); clear hb2 hr2 hr2' f0 f1 f2 f3 f4 f5 g0 g1 gf d1)
        | (at_builtin; go_must (refine wpList_append_own_at _ rfl _ _ 26 rfl M.heap.size 59 iq0 _ 6 80 Tryz.underlying26 hiq iqz0 iqz1 iqz2 rfl (by decide) _ _ _ rfl ((HU2.out.1.alloc (.cells #[.int .i64 x.space, .int .i64 x.need, .int .i64 x.ban, .int .i64 x.ways, .slice a2 x.outs.length c2, .slice a2' x.ins.length c2'] 59)).alloc (.cells #[.int .i64 x.space, .int .i64 x.need, .int .i64 x.ban, .int .i64 x.ways, .slice a2 x.outs.length c2, .slice a2' x.ins.length c2'] 59)) ⟨w2.heap.size + 1, 0, none⟩ 1 1 (encPol ⟨x, .slice a2 x.outs.length c2, .slice a2' x.ins.length c2'⟩) rfl rfl (cell_new_list2 w2 _ (encPol ⟨x, .slice a2 x.outs.length c2, .slice a2' x.ins.length c2'⟩) _) (by intro u hu; simp only [encPol, List.mem_cons, List.not_mem_nil, or_false] at hu; rcases hu with rfl | rfl | rfl | rfl | rfl | rfl <;> rfl) (by unfold maxLen; omega) (by omega) (by simp only [World.size_alloc]; omega) ?_); intro v3 w8 hown8 hg8 hnil8 hat8; obtain ⟨a8, c8, rfl, _, _⟩ := own_slice hown8; have t8 : w8.heap[xb]? = some (.cells #[.slice va c.pods.length vc, v'] 28 (0, 0)) := (hg8.block xb (by simp only [World.size_alloc]; omega) (fun e => by have := HVB.out _ e.symm; omega)).trans ((Below.heap_alloc _ _ _ (by simp only [World.size_alloc]; omega)).trans ((Below.heap_alloc _ _ _ (by omega)).trans HX2.out)); have y8 : w8.cell? ⟨xb, 1, none⟩ = some v' := (blk_cell t8 1).trans rfl; have yf8 := blk_frozen t8; have HT8 := hid t8; have HO8 := hid hown8; have HG8 := hid hg8; have HA8 := hid hat8; clear hown8 hg8 hnil8 hat8 t8))
      have hZ2 : Below w2.heap.size w2 ((w2.alloc (.cells #[.int .i64 x.space, .int .i64 x.need, .int .i64 x.ban, .int .i64 x.ways, .slice a2 x.outs.length c2, .slice a2' x.ins.length c2'] 59)).alloc (.cells #[.int .i64 x.space, .int .i64 x.need, .int .i64 x.ban, .int .i64 x.ways, .slice a2 x.outs.length c2, .slice a2' x.ins.length c2'] 59)) := bel
      have HZA := hid (show Below wa.heap.size wa ((w2.alloc (.cells #[.int .i64 x.space, .int .i64 x.need, .int .i64 x.ban, .int .i64 x.ways, .slice a2 x.outs.length c2, .slice a2' x.ins.length c2'] 59)).alloc (.cells #[.int .i64 x.space, .int .i64 x.need, .int .i64 x.ban, .int .i64 x.ways, .slice a2 x.outs.length c2, .slice a2' x.ins.length c2'] 59)) from HB2.out.trans (hZ2.mono HB2.out.size))
      refine ⟨⟨k + 1, _, ys ++ [⟨x, .slice a2 x.outs.length c2, .slice a2' x.ins.length c2'⟩], by omega, by go_num, cpy_take HYS.out HXK.out, (set_blk HT8.out 1 _).trans rfl, ?_, gb_set (gb_row (gb_below HG.out HZA.out) HG8.out HVB.out) 1 _⟩, by simp [intOf]; omega⟩
      have g1 : UpPols M.heap.size ((w2.alloc (.cells #[.int .i64 x.space, .int .i64 x.need, .int .i64 x.ban, .int .i64 x.ways, .slice a2 x.outs.length c2, .slice a2' x.ins.length c2'] 59)).alloc (.cells #[.int .i64 x.space, .int .i64 x.need, .int .i64 x.ban, .int .i64 x.ways, .slice a2 x.outs.length c2, .slice a2' x.ins.length c2'] 59)) v' ys := HU.out.grow NPol.mono HZA.out
      have g2 : NPol ((w2.alloc (.cells #[.int .i64 x.space, .int .i64 x.need, .int .i64 x.ban, .int .i64 x.ways, .slice a2 x.outs.length c2, .slice a2' x.ins.length c2'] 59)).alloc (.cells #[.int .i64 x.space, .int .i64 x.need, .int .i64 x.ban, .int .i64 x.ways, .slice a2 x.outs.length c2, .slice a2' x.ins.length c2'] 59)).heap.size (hide ((w2.alloc (.cells #[.int .i64 x.space, .int .i64 x.need, .int .i64 x.ban, .int .i64 x.ways, .slice a2 x.outs.length c2, .slice a2' x.ins.length c2'] 59)).alloc (.cells #[.int .i64 x.space, .int .i64 x.need, .int .i64 x.ban, .int .i64 x.ways, .slice a2 x.outs.length c2, .slice a2' x.ins.length c2'] 59)) (low wa.heap.size)) ⟨x, .slice a2 x.outs.length c2, .slice a2' x.ins.length c2'⟩ := ⟨⟨a2, c2, rfl, rdRules.sub (Sub.grow hZ2) hZ2.size HR2.out⟩, a2', c2', rfl, rdRules.sub (Sub.grow hZ2) hZ2.size HR2'.out⟩
      have g3 := Up.app NPol.mono g1 hsg (fun g hg => HVL.out g hg) g2 HO8.out HG8.out HA8.out
      exact g3.set NPol.mono ⟨xb, 1, none⟩ _ (by show xb < M.heap.size; omega)
    · have z1 : ¬ (k : Int) < (c.pols.length : Int) := by omega
      have he : c.pols.take k = c.pols := List.take_of_length_le (by omega)
      have hYS := HYS.out
      rw [he] at hYS
      obtain ⟨va', vc', hv', _, hrq⟩ := upPols_done HU.out (by omega)
      rw [hYS] at hv' hrq
      subst hv'
      obtain ⟨va2, vc2, hv2, _, hrp⟩ := upPods_done (HUP.out.gb0 NNo.mono HG.out (by omega)) (by omega)
      injection hv2 with h1 h2 h3
      subst h1 h3
      have r0 := blk_cell HRA.out
      have rf := blk_frozen HRA.out
      have HRQ := hid hrq
      have HRP := hid hrp
      have HYE := hid hYS
      have HUF := hid (HUP.out.gb0 NNo.mono HG.out (by omega))
      clear he hYS hrq hrp h2
      go_wp2
      have hM := HB.out.size
      refine bodyPost_ret (v := .agg #[.slice va c.pods.length vc, .slice va' c.pols.length vc']) (by simp [results, Tryz.results78, go_sem, r0]) rfl ⟨⟨_, _, rfl, M.heap.size, by omega, fun g hg => (HUP.out.lt g hg).2, ?_, ys, HYE.out, ?_⟩, ?_⟩
      · exact Up.lower ((HUF.out.set NNo.mono _ _ (by simp only []; omega)).set NNo.mono _ _ (by simp only []; omega)) NNo.mono (by omega)
      · have q := (HU.out.set NPol.mono ⟨w.heap.size + 1, 0, none⟩ (.slice va c.pods.length vc) (by simp only []; omega)).set NPol.mono ⟨w.heap.size + 1, 1, none⟩ (.slice va' c.pols.length vc') (by simp only []; omega)
        exact q
      · exact (HBw.out.setCell (by simp) _).setCell (by simp) _
end Go.Proofs.YtmkjlhplgcifiaaGreat
