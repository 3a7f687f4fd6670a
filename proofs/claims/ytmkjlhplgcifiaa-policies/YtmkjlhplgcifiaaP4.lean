/-
  The law Policies walked, whatever the cluster and the packet.
-/
import Derived.Test.YtmkjlhplgcifiaaP2
import Derived.Test.YtmkjlhplgcifiaaP3
namespace Go.Proofs.Ytmkjlhplgcifiaa
open Go.ChangeShapes Go.WideShapes Go.ChangeAt Go.RowKit
attribute [local simp] World.cell?_grow
attribute [local go_sem] World.cell?_grow
attribute [local simp] World.cell?_alloc_there
attribute [local go_sem] World.cell?_alloc_there
attribute [local go_sem] eqg_blk std_blk eqg_pod std_pod eqg_sel std_sel eqg_prt std_prt
attribute [local go_sem ↓] eql_blk eql_sel neq_sel eql_prt eql_pod
attribute [local go_sem ↓] met_in1 met_in2 met_re1 met_re2
attribute [local go_sem ↓] met_has1 met_has2
set_option linter.unusedVariables false
set_option linter.unusedSimpArgs false

set_option maxRecDepth 100000 in
set_option maxHeartbeats 8000000 in
theorem policies_any (c : DClu) (k : DPkt) (pa qa : Option Addr) (pc qc : Nat) (w : World) (hp : rdPods w.heap.size w pa c.pods) (hq : rdPols w.heap.size w qa c.pols) :
    Calls Try.prog 4 #[.agg #[.slice pa c.pods.length pc, .slice qa c.pols.length qc], .agg #[.int .i64 k.src, .int .i64 k.dst, .int .i64 k.proto, .int .i64 k.port]] w fun e w' => e = .returned (.bool true) ∧ Below w.heap.size w w' := by
  have HP := hid hp
  have HQ := hid hq
  clear hp hq
  go_enter Try.func4, Try.ntmps4
  go_wp2_with fail
  generalize hW : (w.alloc (Obj.cells #[.slice pa c.pods.length pc, .slice qa c.pols.length qc] 26)).alloc (Obj.cells #[.int .i64 k.src, .int .i64 k.dst, .int .i64 k.proto, .int .i64 k.port] 28) = W
  have hsW : W.heap.size = w.heap.size + 2 := by rw [← hW]; simp
  have HBW := hid (show Below w.heap.size w W from by rw [← hW]; exact (by repeat (first | exact Below.refl _ _ | assumption | apply Ext.alloc | apply Ext.drewN | apply Ext.drew | refine Ext.trans ?_ (by assumption))))
  have c0 : W.cell? ⟨w.heap.size, 0, none⟩ = some (.slice pa c.pods.length pc) := by rw [← hW]; simp [go_sem]
  have c1 : W.cell? ⟨w.heap.size, 1, none⟩ = some (.slice qa c.pols.length qc) := by rw [← hW]; simp [go_sem]
  have p0 : W.cell? ⟨w.heap.size + 1, 0, none⟩ = some (.int .i64 k.src) := by rw [← hW]; simp [go_sem]
  have p1 : W.cell? ⟨w.heap.size + 1, 1, none⟩ = some (.int .i64 k.dst) := by rw [← hW]; simp [go_sem]
  have p2 : W.cell? ⟨w.heap.size + 1, 2, none⟩ = some (.int .i64 k.proto) := by rw [← hW]; simp [go_sem]
  have p3 : W.cell? ⟨w.heap.size + 1, 3, none⟩ = some (.int .i64 k.port) := by rw [← hW]; simp [go_sem]
  clear hW
  refine (little_any W).mono ?_
  rintro e w1 ⟨xa, ya, rfl, hx, hy, hb1⟩
  have HX := hid hx
  have HY := hid hy
  have HB1 := hid hb1
  have hs1 := hb1.size
  have bc0 : ∀ o, (w1.alloc o).cell? ⟨w.heap.size, 0, none⟩ = some (.slice pa c.pods.length pc) := fun o => cell_past (cell_to c0 hb1)
  have bc1 : ∀ o, (w1.alloc o).cell? ⟨w.heap.size, 1, none⟩ = some (.slice qa c.pols.length qc) := fun o => cell_past (cell_to c1 hb1)
  have bp0 : ∀ o, (w1.alloc o).cell? ⟨w.heap.size + 1, 0, none⟩ = some (.int .i64 k.src) := fun o => cell_past (cell_to p0 hb1)
  have bp1 : ∀ o, (w1.alloc o).cell? ⟨w.heap.size + 1, 1, none⟩ = some (.int .i64 k.dst) := fun o => cell_past (cell_to p1 hb1)
  have bp2 : ∀ o, (w1.alloc o).cell? ⟨w.heap.size + 1, 2, none⟩ = some (.int .i64 k.proto) := fun o => cell_past (cell_to p2 hb1)
  have bp3 : ∀ o, (w1.alloc o).cell? ⟨w.heap.size + 1, 3, none⟩ = some (.int .i64 k.port) := fun o => cell_past (cell_to p3 hb1)
  clear hx hy hb1 c0 c1 p0 p1 p2 p3
  go_wp2_with fail
  generalize hX : w1.alloc (Obj.cells #[.slice xa 2 2, .slice ya 1 1] 26) = X
  have hsX : X.heap.size = w1.heap.size + 1 := by rw [← hX]; simp
  have HBX := hid (show Below w1.heap.size w1 X from by rw [← hX]; exact (by repeat (first | exact Below.refl _ _ | assumption | apply Ext.alloc | apply Ext.drewN | apply Ext.drew | refine Ext.trans ?_ (by assumption))))
  have dx0 : X.cell? ⟨w1.heap.size, 0, none⟩ = some (.slice xa 2 2) := by rw [← hX]; simp [go_sem]
  have dx1 : X.cell? ⟨w1.heap.size, 1, none⟩ = some (.slice ya 1 1) := by rw [← hX]; simp [go_sem]
  have dc0 : X.cell? ⟨w.heap.size, 0, none⟩ = some (.slice pa c.pods.length pc) := by rw [← hX]; exact bc0 _
  have dc1 : X.cell? ⟨w.heap.size, 1, none⟩ = some (.slice qa c.pols.length qc) := by rw [← hX]; exact bc1 _
  have dp0 : X.cell? ⟨w.heap.size + 1, 0, none⟩ = some (.int .i64 k.src) := by rw [← hX]; exact bp0 _
  have dp1 : X.cell? ⟨w.heap.size + 1, 1, none⟩ = some (.int .i64 k.dst) := by rw [← hX]; exact bp1 _
  have dp2 : X.cell? ⟨w.heap.size + 1, 2, none⟩ = some (.int .i64 k.proto) := by rw [← hX]; exact bp2 _
  have dp3 : X.cell? ⟨w.heap.size + 1, 3, none⟩ = some (.int .i64 k.port) := by rw [← hX]; exact bp3 _
  clear hX bc0 bc1 bp0 bp1 bp2 bp3
  have HZ1 := hid (Ext.trans (Ext.trans HBW.out HB1.out) HBX.out)
  refine (plain_right litClu xa ya 2 1 X (rdPods.to HX.out HBX.out) (rdPols.to HY.out HBX.out)).mono ?_
  rintro e w2 ⟨rfl, hb2⟩
  have HB2 := hid hb2
  have hs2 := hb2.size
  have ec0 := cell_to dc0 hb2
  have ec1 := cell_to dc1 hb2
  have ep0 := cell_to dp0 hb2
  have ep1 := cell_to dp1 hb2
  have ep2 := cell_to dp2 hb2
  have ep3 := cell_to dp3 hb2
  have ex0 := cell_to dx0 hb2
  have ex1 := cell_to dx1 hb2
  clear hb2 dc0 dc1 dp0 dp1 dp2 dp3 dx0 dx1
  go_wp2_with fail
  refine (plain_allowed litClu ⟨5, 6, 1, 80⟩ xa ya 2 1 w2 (rdPods.to (rdPods.to HX.out HBX.out) HB2.out) (rdPols.to (rdPols.to HY.out HBX.out) HB2.out)).mono ?_
  rintro e w3 ⟨rfl, hb3⟩
  have HB3 := hid (Ext.trans (Ext.trans HZ1.out HB2.out) hb3)
  have hs3 := hb3.size
  have fc0 := cell_to ec0 hb3
  have fc1 := cell_to ec1 hb3
  have fp0 := cell_to ep0 hb3
  have fp1 := cell_to ep1 hb3
  have fp2 := cell_to ep2 hb3
  have fp3 := cell_to ep3 hb3
  clear hb3 ec0 ec1 ep0 ep1 ep2 ep3 ex0 ex1
  go_wp2_with fail
  refine (plain_right c pa qa pc qc w3 (rdPods.to HP.out HB3.out) (rdPols.to HQ.out HB3.out)).mono ?_
  rintro e w4 ⟨rfl, hb4⟩
  have HB4 := hid (Ext.trans HB3.out hb4)
  have hs4 := hb4.size
  have gc0 := cell_to fc0 hb4
  have gc1 := cell_to fc1 hb4
  have gp0 := cell_to fp0 hb4
  have gp1 := cell_to fp1 hb4
  have gp2 := cell_to fp2 hb4
  have gp3 := cell_to fp3 hb4
  clear hb4 fc0 fc1 fp0 fp1 fp2 fp3
  go_wp2_with fail
  refine (plain_allowed c k pa qa pc qc w4 (rdPods.to HP.out HB4.out) (rdPols.to HQ.out HB4.out)).mono ?_
  rintro e w5 ⟨rfl, hb5⟩
  have HB5 := hid (Ext.trans HB4.out hb5)
  clear hb5 gc0 gc1 gp0 gp1 gp2 gp3
  go_wp2_with fail
  go_ret
  exact ⟨by simp, HB5.out⟩
end Go.Proofs.Ytmkjlhplgcifiaa
