/-
  One step of the law: Right or Allowed of a cluster that is lent, held against the document's answer.
-/
import Derived.Test.YtmkjlhplgcifiaaP1
import Derived.Test.YtmkjlhplgcifiaaR9
namespace Go.Proofs.Ytmkjlhplgcifiaa
open Go.ChangeShapes Go.WideShapes Go.ChangeAt Go.RowKit
attribute [local simp] World.cell?_grow
attribute [local go_sem] World.cell?_grow
attribute [local simp] World.cell?_alloc_there
attribute [local go_sem] World.cell?_alloc_there
attribute [local go_sem] eqg_blk std_blk eqg_pod std_pod eqg_sel std_sel eqg_prt std_prt
attribute [local go_sem ↓] eql_blk eql_sel neq_sel eql_prt eql_pod
attribute [local go_sem ↓] met_in1 met_in2 met_re1 met_re2
attribute [local go_sem ↓] met_has1 met_has2
set_option linter.unusedVariables false
set_option linter.unusedSimpArgs false

theorem num_any (n : Int) (w : World) : Calls Try.prog 8 #[.int .i64 n] w fun e w' => e = .returned (.int .i64 n) ∧ w' = w := by
  go_enter Try.func8, Try.ntmps8
  go_wp2
  go_ret
  exact ⟨rfl, rfl⟩

set_option maxRecDepth 100000 in
set_option maxHeartbeats 8000000 in
theorem plain_right (c : DClu) (pa qa : Option Addr) (pc qc : Nat) (w : World) (hp : rdPods w.heap.size w pa c.pods) (hq : rdPols w.heap.size w qa c.pols) :
    Calls Try.prog 7 #[.agg #[.int .i64 1, .int .i64 0, .int .i64 0, .int .i64 0, .slice pa c.pods.length pc, .slice qa c.pols.length qc, .int .i64 0, .int .i64 0, .int .i64 0, .int .i64 0, .int .i64 0, .int .i64 0, .int .i64 0, .int .i64 0, .int .i64 0, .int .i64 0, .int .i64 0, .int .i64 0, .slice none 0 0, .slice none 0 0]] w fun e w' => e = .returned (.bool true) ∧ Below w.heap.size w w' := by
  have HP := hid hp
  have HQ := hid hq
  clear hp hq
  go_enter Try.func7, Try.ntmps7
  go_wp2_with fail
  generalize hW : w.alloc (Obj.cells #[.int .i64 1, .int .i64 0, .int .i64 0, .int .i64 0, .slice pa c.pods.length pc, .slice qa c.pols.length qc, .int .i64 0, .int .i64 0, .int .i64 0, .int .i64 0, .int .i64 0, .int .i64 0, .int .i64 0, .int .i64 0, .int .i64 0, .int .i64 0, .int .i64 0, .int .i64 0, .slice none 0 0, .slice none 0 0] 39) = W
  have hsW : W.heap.size = w.heap.size + 1 := by rw [← hW]; simp
  have HBW := hid (show Below w.heap.size w W from by rw [← hW]; exact (by repeat (first | exact Below.refl _ _ | assumption | apply Ext.alloc | apply Ext.drewN | apply Ext.drew | refine Ext.trans ?_ (by assumption))))
  have a4 : W.cell? ⟨w.heap.size, 4, none⟩ = some (.slice pa c.pods.length pc) := by rw [← hW]; simp [go_sem]
  have a5 : W.cell? ⟨w.heap.size, 5, none⟩ = some (.slice qa c.pols.length qc) := by rw [← hW]; simp [go_sem]
  have a0 : W.cell? ⟨w.heap.size, 0, none⟩ = some (.int .i64 1) := by rw [← hW]; simp [go_sem]
  clear hW
  refine (lent_any c pa qa pc qc W (rdPods.to HP.out HBW.out) (rdPols.to HQ.out HBW.out)).mono ?_
  rintro e w1 ⟨m, sa, sn, sc, ta, tn, tc, rfl, hm1, hm2, hl1, hl2, hb1⟩
  obtain ⟨ss, cc, e1, hcc, hr1⟩ := hl1.rd HP.out.1 (B := w1.heap.size) hm2
  obtain ⟨tt, dd, e2, hr2⟩ := hl2.rd HQ.out (B := w1.heap.size) (Nat.le_refl _)
  cases e1
  cases e2
  have HL1 := hid hl1
  have HL2 := hid hl2
  have HR1 := hid hr1
  have HR2 := hid hr2
  have HB1 := hid hb1
  have hs1 := hb1.size
  have b4 : ∀ o, (w1.alloc o).cell? ⟨w.heap.size, 4, none⟩ = some (.slice pa c.pods.length pc) := fun o => cell_past (cell_to a4 hb1)
  have b5 : ∀ o, (w1.alloc o).cell? ⟨w.heap.size, 5, none⟩ = some (.slice qa c.pols.length qc) := fun o => cell_past (cell_to a5 hb1)
  have b0 : ∀ o, (w1.alloc o).cell? ⟨w.heap.size, 0, none⟩ = some (.int .i64 1) := fun o => cell_past (cell_to a0 hb1)
  clear hl1 hl2 hr1 hr2 hb1 a4 a5 a0
  go_wp2_with fail
  generalize hX : w1.alloc (Obj.cells #[.slice sa c.pods.length sc, .slice ta c.pols.length tc] 26) = X
  have hsX : X.heap.size = w1.heap.size + 1 := by rw [← hX]; simp
  have HBX := hid (show Below w1.heap.size w1 X from by rw [← hX]; exact (by repeat (first | exact Below.refl _ _ | assumption | apply Ext.alloc | apply Ext.drewN | apply Ext.drew | refine Ext.trans ?_ (by assumption))))
  have h0 : X.cell? ⟨w1.heap.size, 0, none⟩ = some (.slice sa c.pods.length sc) := by rw [← hX]; simp [go_sem]
  have h1 : X.cell? ⟨w1.heap.size, 1, none⟩ = some (.slice ta c.pols.length tc) := by rw [← hX]; simp [go_sem]
  have q4 : X.cell? ⟨w.heap.size, 4, none⟩ = some (.slice pa c.pods.length pc) := by rw [← hX]; exact b4 _
  have q5 : X.cell? ⟨w.heap.size, 5, none⟩ = some (.slice qa c.pols.length qc) := by rw [← hX]; exact b5 _
  have q0 : X.cell? ⟨w.heap.size, 0, none⟩ = some (.int .i64 1) := by rw [← hX]; exact b0 _
  clear hX b4 b5 b0
  refine (right_any c sa ta sc tc X (rdPods.ext HBX.out (by omega) HR1.out) (rdPols.ext HBX.out (by omega) HR2.out) hcc).mono ?_
  rintro e w2 ⟨rfl, hb2⟩
  have HB2 := hid hb2
  have hs2 := hb2.size
  have i0 := cell_to h0 hb2
  have i1 := cell_to h1 hb2
  have r4 := cell_to q4 hb2
  have r5 := cell_to q5 hb2
  have r0 := cell_to q0 hb2
  have HB12 := hid (Ext.trans HBX.out hb2)
  clear hb2 h0 h1 q4 q5 q0
  go_wp2_with fail
  have hBB : Below w.heap.size w w2 := Ext.trans (Ext.trans HBW.out HB1.out) HB12.out
  refine (back_any c pa qa pc qc sa ta c.pods.length sc c.pols.length tc w.heap.size W.heap.size m w1.heap.size w2 (rdPods.ext hBB (Nat.le_refl _) HP.out) (rdPols.ext hBB (Nat.le_refl _) HQ.out) (by omega) hm1 hm2 HB12.out.size (HL1.out.heap fun j x1 x2 => HB12.out.block j (by omega)) (lnPols.fwd (B := w.heap.size) (rdPols.ext HBW.out (Nat.le_refl _) HQ.out) ((Ext.trans HB1.out HB12.out).mono (by omega)) (HL2.out.heap fun j x1 x2 => HB12.out.block j (by omega)))).mono ?_
  rintro e w3 ⟨rfl, hon⟩
  have hB3 : Below w.heap.size w w3 := hBB.trans (hon.below (by omega) (by omega))
  have hs3 := hon.2.1
  have u4 := hon.cell r4 (by omega)
  have u5 := hon.cell r5 (by omega)
  have u0 := hon.cell r0 (by omega)
  clear i0 i1 hon r4 r5 r0
  go_wp2_with fail
  refine (refRight_any c pa qa pc qc w3 (rdPods.to HP.out hB3) (rdPols.to HQ.out hB3)).mono ?_
  rintro e w4 ⟨rfl, hb4⟩
  have HB4 := hid (Ext.trans hB3 hb4)
  clear hb4 u4 u5 u0
  go_wp2_with (go_at_call 8; refine (num_any _ _).mono ?_; rintro e w' ⟨rfl, rfl⟩)
  go_ret
  exact ⟨by simp, HB4.out⟩

set_option maxRecDepth 100000 in
set_option maxHeartbeats 8000000 in
theorem plain_allowed (c : DClu) (k : DPkt) (pa qa : Option Addr) (pc qc : Nat) (w : World) (hp : rdPods w.heap.size w pa c.pods) (hq : rdPols w.heap.size w qa c.pols) :
    Calls Try.prog 7 #[.agg #[.int .i64 2, .int .i64 0, .int .i64 0, .int .i64 0, .slice pa c.pods.length pc, .slice qa c.pols.length qc, .int .i64 k.src, .int .i64 k.dst, .int .i64 k.proto, .int .i64 k.port, .int .i64 0, .int .i64 0, .int .i64 0, .int .i64 0, .int .i64 0, .int .i64 0, .int .i64 0, .int .i64 0, .slice none 0 0, .slice none 0 0]] w fun e w' => e = .returned (.bool true) ∧ Below w.heap.size w w' := by
  have HP := hid hp
  have HQ := hid hq
  clear hp hq
  go_enter Try.func7, Try.ntmps7
  go_wp2_with fail
  generalize hW : w.alloc (Obj.cells #[.int .i64 2, .int .i64 0, .int .i64 0, .int .i64 0, .slice pa c.pods.length pc, .slice qa c.pols.length qc, .int .i64 k.src, .int .i64 k.dst, .int .i64 k.proto, .int .i64 k.port, .int .i64 0, .int .i64 0, .int .i64 0, .int .i64 0, .int .i64 0, .int .i64 0, .int .i64 0, .int .i64 0, .slice none 0 0, .slice none 0 0] 39) = W
  have hsW : W.heap.size = w.heap.size + 1 := by rw [← hW]; simp
  have HBW := hid (show Below w.heap.size w W from by rw [← hW]; exact (by repeat (first | exact Below.refl _ _ | assumption | apply Ext.alloc | apply Ext.drewN | apply Ext.drew | refine Ext.trans ?_ (by assumption))))
  have a4 : W.cell? ⟨w.heap.size, 4, none⟩ = some (.slice pa c.pods.length pc) := by rw [← hW]; simp [go_sem]
  have a5 : W.cell? ⟨w.heap.size, 5, none⟩ = some (.slice qa c.pols.length qc) := by rw [← hW]; simp [go_sem]
  have a6 : W.cell? ⟨w.heap.size, 6, none⟩ = some (.int .i64 k.src) := by rw [← hW]; simp [go_sem]
  have a7 : W.cell? ⟨w.heap.size, 7, none⟩ = some (.int .i64 k.dst) := by rw [← hW]; simp [go_sem]
  have a8 : W.cell? ⟨w.heap.size, 8, none⟩ = some (.int .i64 k.proto) := by rw [← hW]; simp [go_sem]
  have a9 : W.cell? ⟨w.heap.size, 9, none⟩ = some (.int .i64 k.port) := by rw [← hW]; simp [go_sem]
  have a0 : W.cell? ⟨w.heap.size, 0, none⟩ = some (.int .i64 2) := by rw [← hW]; simp [go_sem]
  clear hW
  refine (lent_any c pa qa pc qc W (rdPods.to HP.out HBW.out) (rdPols.to HQ.out HBW.out)).mono ?_
  rintro e w1 ⟨m, sa, sn, sc, ta, tn, tc, rfl, hm1, hm2, hl1, hl2, hb1⟩
  obtain ⟨ss, cc, e1, hcc, hr1⟩ := hl1.rd HP.out.1 (B := w1.heap.size) hm2
  obtain ⟨tt, dd, e2, hr2⟩ := hl2.rd HQ.out (B := w1.heap.size) (Nat.le_refl _)
  cases e1
  cases e2
  have HL1 := hid hl1
  have HL2 := hid hl2
  have HR1 := hid hr1
  have HR2 := hid hr2
  have HB1 := hid hb1
  have hs1 := hb1.size
  have b4 : ∀ o, (w1.alloc o).cell? ⟨w.heap.size, 4, none⟩ = some (.slice pa c.pods.length pc) := fun o => cell_past (cell_to a4 hb1)
  have b5 : ∀ o, (w1.alloc o).cell? ⟨w.heap.size, 5, none⟩ = some (.slice qa c.pols.length qc) := fun o => cell_past (cell_to a5 hb1)
  have b6 : ∀ o, (w1.alloc o).cell? ⟨w.heap.size, 6, none⟩ = some (.int .i64 k.src) := fun o => cell_past (cell_to a6 hb1)
  have b7 : ∀ o, (w1.alloc o).cell? ⟨w.heap.size, 7, none⟩ = some (.int .i64 k.dst) := fun o => cell_past (cell_to a7 hb1)
  have b8 : ∀ o, (w1.alloc o).cell? ⟨w.heap.size, 8, none⟩ = some (.int .i64 k.proto) := fun o => cell_past (cell_to a8 hb1)
  have b9 : ∀ o, (w1.alloc o).cell? ⟨w.heap.size, 9, none⟩ = some (.int .i64 k.port) := fun o => cell_past (cell_to a9 hb1)
  have b0 : ∀ o, (w1.alloc o).cell? ⟨w.heap.size, 0, none⟩ = some (.int .i64 2) := fun o => cell_past (cell_to a0 hb1)
  clear hl1 hl2 hr1 hr2 hb1 a4 a5 a6 a7 a8 a9 a0
  go_wp2_with fail
  generalize hX : w1.alloc (Obj.cells #[.slice sa c.pods.length sc, .slice ta c.pols.length tc] 26) = X
  have hsX : X.heap.size = w1.heap.size + 1 := by rw [← hX]; simp
  have HBX := hid (show Below w1.heap.size w1 X from by rw [← hX]; exact (by repeat (first | exact Below.refl _ _ | assumption | apply Ext.alloc | apply Ext.drewN | apply Ext.drew | refine Ext.trans ?_ (by assumption))))
  have h0 : X.cell? ⟨w1.heap.size, 0, none⟩ = some (.slice sa c.pods.length sc) := by rw [← hX]; simp [go_sem]
  have h1 : X.cell? ⟨w1.heap.size, 1, none⟩ = some (.slice ta c.pols.length tc) := by rw [← hX]; simp [go_sem]
  have q4 : X.cell? ⟨w.heap.size, 4, none⟩ = some (.slice pa c.pods.length pc) := by rw [← hX]; exact b4 _
  have q5 : X.cell? ⟨w.heap.size, 5, none⟩ = some (.slice qa c.pols.length qc) := by rw [← hX]; exact b5 _
  have q6 : X.cell? ⟨w.heap.size, 6, none⟩ = some (.int .i64 k.src) := by rw [← hX]; exact b6 _
  have q7 : X.cell? ⟨w.heap.size, 7, none⟩ = some (.int .i64 k.dst) := by rw [← hX]; exact b7 _
  have q8 : X.cell? ⟨w.heap.size, 8, none⟩ = some (.int .i64 k.proto) := by rw [← hX]; exact b8 _
  have q9 : X.cell? ⟨w.heap.size, 9, none⟩ = some (.int .i64 k.port) := by rw [← hX]; exact b9 _
  have q0 : X.cell? ⟨w.heap.size, 0, none⟩ = some (.int .i64 2) := by rw [← hX]; exact b0 _
  clear hX b4 b5 b6 b7 b8 b9 b0
  refine (allowed_any c k sa ta sc tc X (rdPods.ext HBX.out (by omega) HR1.out) (rdPols.ext HBX.out (by omega) HR2.out) hcc).mono ?_
  rintro e w2 ⟨rfl, hb2⟩
  have HB2 := hid hb2
  have hs2 := hb2.size
  have i0 := cell_to h0 hb2
  have i1 := cell_to h1 hb2
  have r4 := cell_to q4 hb2
  have r5 := cell_to q5 hb2
  have r6 := cell_to q6 hb2
  have r7 := cell_to q7 hb2
  have r8 := cell_to q8 hb2
  have r9 := cell_to q9 hb2
  have r0 := cell_to q0 hb2
  have HB12 := hid (Ext.trans HBX.out hb2)
  clear hb2 h0 h1 q4 q5 q6 q7 q8 q9 q0
  go_wp2_with fail
  have hBB : Below w.heap.size w w2 := Ext.trans (Ext.trans HBW.out HB1.out) HB12.out
  refine (back_any c pa qa pc qc sa ta c.pods.length sc c.pols.length tc w.heap.size W.heap.size m w1.heap.size w2 (rdPods.ext hBB (Nat.le_refl _) HP.out) (rdPols.ext hBB (Nat.le_refl _) HQ.out) (by omega) hm1 hm2 HB12.out.size (HL1.out.heap fun j x1 x2 => HB12.out.block j (by omega)) (lnPols.fwd (B := w.heap.size) (rdPols.ext HBW.out (Nat.le_refl _) HQ.out) ((Ext.trans HB1.out HB12.out).mono (by omega)) (HL2.out.heap fun j x1 x2 => HB12.out.block j (by omega)))).mono ?_
  rintro e w3 ⟨rfl, hon⟩
  have hB3 : Below w.heap.size w w3 := hBB.trans (hon.below (by omega) (by omega))
  have hs3 := hon.2.1
  have u4 := hon.cell r4 (by omega)
  have u5 := hon.cell r5 (by omega)
  have u6 := hon.cell r6 (by omega)
  have u7 := hon.cell r7 (by omega)
  have u8 := hon.cell r8 (by omega)
  have u9 := hon.cell r9 (by omega)
  have u0 := hon.cell r0 (by omega)
  clear i0 i1 hon r4 r5 r6 r7 r8 r9 r0
  go_wp2_with fail
  refine (refAllowed_any c k pa qa pc qc w3 (rdPods.to HP.out hB3) (rdPols.to HQ.out hB3)).mono ?_
  rintro e w4 ⟨rfl, hb4⟩
  have HB4 := hid (Ext.trans hB3 hb4)
  clear hb4 u4 u5 u6 u7 u8 u9 u0
  go_wp2_with (go_at_call 8; refine (num_any _ _).mono ?_; rintro e w' ⟨rfl, rfl⟩)
  go_ret
  exact ⟨by simp, HB4.out⟩
end Go.Proofs.Ytmkjlhplgcifiaa
