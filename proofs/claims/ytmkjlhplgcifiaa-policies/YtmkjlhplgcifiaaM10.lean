/-
  A cluster given back.
-/
import Derived.Test.YtmkjlhplgcifiaaM9
import Derived.Test.YtmkjlhplgcifiaaM7
namespace Go.Proofs.Ytmkjlhplgcifiaa
open Go.ChangeShapes Go.WideShapes Go.ChangeAt Go.RowKit
attribute [local simp] World.cell?_grow
attribute [local go_sem] World.cell?_grow
attribute [local simp] World.cell?_alloc_there
attribute [local go_sem] World.cell?_alloc_there
attribute [local go_sem] eqg_blk std_blk eqg_pod std_pod eqg_sel std_sel eqg_prt std_prt
attribute [local go_sem ↓] eql_blk eql_sel neq_sel eql_prt eql_pod
attribute [local go_sem ↓] met_in1 met_in2 met_re1 met_re2
set_option linter.unusedVariables false
set_option linter.unusedSimpArgs false

set_option maxRecDepth 100000 in
set_option maxHeartbeats 16000000 in
theorem back_nn (c : DClu) (pc qc B lo m hi : Nat) (w : World) (hB : B ≤ lo) (hlm : lo ≤ m) (hmh : m ≤ hi) (hs : hi ≤ w.heap.size) :
    Calls Try.prog 11 #[.agg #[.slice none 0 0, .slice none 0 0], .agg #[.slice none 0 pc, .slice none 0 qc]] w fun e w' => e = .returned (.bool true) ∧ Only lo hi w w' := by
  have hqp : ∀ w, (binOp .neq 23 (.slice none 0 pc) (.slice none 0 0)).run Try.prog w = .ok (.bool false) w := fun w => run_neq_slice_nil_any w 23 32 _ _ _ _ _ und_pod
  have hqq : ∀ w, (binOp .neq 24 (.slice none 0 qc) (.slice none 0 0)).run Try.prog w = .ok (.bool false) w := fun w => run_neq_slice_nil_any w 24 37 _ _ _ _ _ und_pol
  go_enter Try.func11, Try.ntmps11
  go_wp2
  go_ret
  exact ⟨rfl, Only.of_below (by repeat (first | exact Below.refl _ _ | assumption | apply Ext.alloc | apply Ext.drewN | apply Ext.drew | refine Ext.trans ?_ (by assumption)))⟩

set_option maxRecDepth 100000 in
set_option maxHeartbeats 16000000 in
theorem back_pn (c : DClu) (pa : Addr) (gp : Nat) (pc qc B lo m hi : Nat) (w : World) (hB : B ≤ lo) (hlm : lo ≤ m) (hmh : m ≤ hi) (hs : hi ≤ w.heap.size) (hp : rdPods B w (some pa) c.pods) (hgp1 : lo ≤ gp) (hgp2 : gp < m) (hgr : w.heap[gp]? = some (.cells (c.pods.flatMap oCells ++ ([.int .i64 (-7), .int .i64 0, .int .i64 0, .int .i64 0] : List Value)).toArray 32 (0, 0))) :
    Calls Try.prog 11 #[.agg #[.slice (some ⟨gp, 0, none⟩) c.pods.length (c.pods.length + 1), .slice none 0 0], .agg #[.slice (some pa) c.pods.length pc, .slice none 0 qc]] w fun e w' => e = .returned (.bool true) ∧ Only lo hi w w' := by
  have hqp : ∀ w, (binOp .neq 23 (.slice (some pa) c.pods.length pc) (.slice none 0 0)).run Try.prog w = .ok (.bool true) w := fun w => run_neq_slice_nil_any w 23 32 _ _ _ _ _ und_pod
  have hqq : ∀ w, (binOp .neq 24 (.slice none 0 qc) (.slice none 0 0)).run Try.prog w = .ok (.bool false) w := fun w => run_neq_slice_nil_any w 24 37 _ _ _ _ _ und_pol
  have hlp := hp.1
  have HP := hid hp
  have HGR := hid hgr
  have HOP := hid (own_of hgr (show _ = (c.pods.length + 1) * 4 by simp [flat_len oCells 4 lens_pod, Nat.succ_mul]))
  have hn1 : ((c.pods.length : Int) != (c.pods.length : Int)) = false := by simp
  clear hp hgr
  have s0 : w.cell? ⟨gp, c.pods.length * 4, none⟩ = some (.int .i64 (-7)) := row_cell HGR.out ((flat_end oCells 4 lens_pod c.pods _ 0).trans rfl)
  have s1 : w.cell? ⟨gp, c.pods.length * 4 + 1, none⟩ = some (.int .i64 0) := row_cell HGR.out ((flat_end oCells 4 lens_pod c.pods _ 1).trans rfl)
  have s2 : w.cell? ⟨gp, c.pods.length * 4 + 2, none⟩ = some (.int .i64 0) := row_cell HGR.out ((flat_end oCells 4 lens_pod c.pods _ 2).trans rfl)
  have s3 : w.cell? ⟨gp, c.pods.length * 4 + 3, none⟩ = some (.int .i64 0) := row_cell HGR.out ((flat_end oCells 4 lens_pod c.pods _ 3).trans rfl)
  have gw1 : gp < w.heap.size := by omega
  have gw2 : gp < w.heap.size + 1 := by omega
  have gw3 : gp ≤ w.heap.size := by omega
  go_enter Try.func11, Try.ntmps11
  go_wp2
  generalize hW : (w.alloc (Obj.cells #[.slice (some ⟨gp, 0, none⟩) c.pods.length (c.pods.length + 1), .slice none 0 0] 26)).alloc (Obj.cells #[.slice (some pa) c.pods.length pc, .slice none 0 qc] 26) = W
  have hsW : W.heap.size = w.heap.size + 2 := by rw [← hW]; simp
  have x0 : W.cell? ⟨w.heap.size, 0, none⟩ = some (.slice (some ⟨gp, 0, none⟩) c.pods.length (c.pods.length + 1)) := by rw [← hW]; simp [go_sem]
  have x1 : W.cell? ⟨w.heap.size, 1, none⟩ = some (.slice none 0 0) := by rw [← hW]; simp [go_sem]
  have y0 : W.cell? ⟨w.heap.size + 1, 0, none⟩ = some (.slice (some pa) c.pods.length pc) := by rw [← hW]; simp [go_sem]
  have y1 : W.cell? ⟨w.heap.size + 1, 1, none⟩ = some (.slice none 0 qc) := by rw [← hW]; simp [go_sem]
  have HBW := hid (show Below w.heap.size w W from by rw [← hW]; exact (by repeat (first | exact Below.refl _ _ | assumption | apply Ext.alloc | apply Ext.drewN | apply Ext.drew | refine Ext.trans ?_ (by assumption))))
  clear hW
  clear s0 s1 s2 s3
  go_loopw [5, 7] (fun ok i wr => ∃ k : Nat, k ≤ c.pods.length ∧ i = .int .i64 k ∧ ok = .bool true ∧ own wr gp ((c.pods.length + 1) * 4) ∧ (∀ o, k * 4 ≤ o → wr.cell? ⟨gp, o, none⟩ = w.cell? ⟨gp, o, none⟩) ∧ Only gp (gp + 1) W wr) (fun _ i _ => c.pods.length - (intOf i).toNat)
  case atStart => exact ⟨0, Nat.zero_le _, rfl, rfl, own_heap HOP.out (HBW.out.block gp (by omega)), fun o _ => HBW.out.cell (p := ⟨gp, o, none⟩) (by show gp < _; omega), Only.refl _ _ _⟩
  case round =>
    obtain ⟨k, hk, rfl, rfl, hown, hrow, hon⟩ := hrel
    have HOW := hid hown
    have HRW := hid hrow
    have HON := hid hon
    have z0 := hon.cell x0 (by omega)
    have z1 := hon.cell x1 (by omega)
    have t0 := hon.cell y0 (by omega)
    have t1 := hon.cell y1 (by omega)
    have hsr := hon.2.1
    have HBR := hid (show Below B w wr from (HBW.out.mono (by omega)).trans (hon.below (by omega) (by omega)))
    by_cases hlt : k < c.pods.length
    · obtain ⟨x, hxk⟩ : ∃ x, c.pods[k]? = some x := ⟨c.pods[k], by simp [hlt]⟩
      have HX := hid hxk
      clear hxk
      obtain ⟨b, off, he, hb, c0, c1, c2, c3⟩ := HP.out.2 k x HX.out
      cases he
      have e0 : wr.cell? ⟨gp, k * 4, none⟩ = some (.int .i64 x.host) := by rw [hrow _ (by omega)]; exact row_cell HGR.out ((flat_at oCells 4 lens_pod c.pods _ k x HX.out 0 (by omega)).trans rfl)
      have d0 : wr.cell? ⟨b, off + k * 4, none⟩ = some (.int .i64 x.host) := by rw [HBR.out.cell (p := ⟨b, _, none⟩) hb]; exact c0
      have e1 : wr.cell? ⟨gp, k * 4 + 1, none⟩ = some (.int .i64 x.ip) := by rw [hrow _ (by omega)]; exact row_cell HGR.out ((flat_at oCells 4 lens_pod c.pods _ k x HX.out 1 (by omega)).trans rfl)
      have d1 : wr.cell? ⟨b, off + k * 4 + 1, none⟩ = some (.int .i64 x.ip) := by rw [HBR.out.cell (p := ⟨b, _, none⟩) hb]; exact c1
      have e2 : wr.cell? ⟨gp, k * 4 + 2, none⟩ = some (.int .i64 x.space) := by rw [hrow _ (by omega)]; exact row_cell HGR.out ((flat_at oCells 4 lens_pod c.pods _ k x HX.out 2 (by omega)).trans rfl)
      have d2 : wr.cell? ⟨b, off + k * 4 + 2, none⟩ = some (.int .i64 x.space) := by rw [HBR.out.cell (p := ⟨b, _, none⟩) hb]; exact c2
      have e3 : wr.cell? ⟨gp, k * 4 + 3, none⟩ = some (.int .i64 x.labels) := by rw [hrow _ (by omega)]; exact row_cell HGR.out ((flat_at oCells 4 lens_pod c.pods _ k x HX.out 3 (by omega)).trans rfl)
      have d3 : wr.cell? ⟨b, off + k * 4 + 3, none⟩ = some (.int .i64 x.labels) := by rw [HBR.out.cell (p := ⟨b, _, none⟩) hb]; exact c3
      clear hown hrow hon c0 c1 c2 c3
      go_wp2
      refine wp_region_grow (by kernel_rfl) (by kernel_rfl) ?_
      repeat (go_big_quiet_step (fail))
      refine wpQuiet_nil ?_
      intro w1 hb1
      obtain ⟨hc1, hf1⟩ := bcell hb1
      have hz1 := hb_lt hb1
      have hfr : ∀ o, w1.frozen? ⟨gp, o, none⟩ = false := fun o => by rw [hb1.frozen (p := ⟨gp, o, none⟩) (by show gp < _; omega)]; exact HOW.out.2 o
      have k0 := cell_to e0 hb1
      have k1 := cell_to e1 hb1
      have k2 := cell_to e2 hb1
      have k3 := cell_to e3 hb1
      have HO1 := hid (own_heap HOW.out (hb1.block gp (by omega)))
      have HB1 := hid hb1
      clear hc1 hf1 hz1 hb1 e0 e1 e2 e3 d0 d1 d2 d3
      go_wp2
      refine ⟨⟨k + 1, by omega, by go_num, by simp, sets_own _ _ (k * 4) _ [.int .i64 0, .int .i64 7, .int .i64 0, .int .i64 0] HO1.out, fun o ho => ?_, (HON.out.ext HB1.out).trans (sets_only _ gp (k * 4) [.int .i64 0, .int .i64 7, .int .i64 0, .int .i64 0])⟩, by simp [intOf]; omega⟩
      exact (sets_behind _ _ (k * 4) [.int .i64 0, .int .i64 7, .int .i64 0, .int .i64 0] _ (by simp; omega)).trans ((HB1.out.cell (p := ⟨gp, o, none⟩) (by show gp < _; omega)).trans (HRW.out o (by omega)))
    · have HOV := hid (show Only lo m w wr from (Only.of_below HBW.out).trans (hon.mono hgp1 (by omega)))
      clear hown hrow hon x0 x1 y0 y1
      obtain ⟨V, hV⟩ : ∃ V, V = wr := ⟨_, rfl⟩
      subst hV
      go_wp2
      go_ret
      exact ⟨rfl, HOV.out.mono (Nat.le_refl _) hmh⟩
end Go.Proofs.Ytmkjlhplgcifiaa
