/-
  The document's answer: when a policy is right.
-/
import Derived.Test.YtmkjlhplgcifiaaR2
namespace Go.Proofs.Ytmkjlhplgcifiaa
open Go.ChangeShapes Go.WideShapes Go.ChangeAt Go.RowKit
attribute [local simp] World.cell?_grow
attribute [local go_sem] World.cell?_grow
attribute [local simp] World.cell?_alloc_there
attribute [local go_sem] World.cell?_alloc_there
attribute [local go_sem] eqg_blk std_blk eqg_pod std_pod eqg_sel std_sel eqg_prt std_prt
attribute [local go_sem ↓] eql_blk eql_sel neq_sel eql_prt eql_pod
attribute [local go_sem ↓] met_in1 met_in2 met_re1 met_re2
attribute [local go_sem ↓] met_has1 met_has2
set_option linter.unusedVariables false
set_option linter.unusedSimpArgs false

set_option maxHeartbeats 4000000 in
theorem refPolicy_any (p : DPol) (oa ia : Option Addr) (oc ic : Nat) (w : World) (ho : rdRules w.heap.size w oa p.outs) (hi : rdRules w.heap.size w ia p.ins) :
    Calls Try.prog 21 #[.agg #[.int .i64 p.space, .int .i64 p.need, .int .i64 p.ban, .int .i64 p.ways, .slice oa p.outs.length oc, .slice ia p.ins.length ic]] w fun e w' => e = .returned (.bool (polOk p)) ∧ Below w.heap.size w w' := by
  have HO := hid ho
  have HI := hid hi
  clear ho hi
  cases hq1 : btw p.space 0 3
  · have HF := hid (show polOk p = false by rw [polOk, hq1]; rfl)
    go_enter Try.func21, Try.ntmps21
    go_wp2_with (first
      | (go_at_call 37; refine (between_any _ _ _ _).mono ?_; rintro e w' ⟨rfl, rfl⟩)
      | (go_at_call 38; refine (refSel_any _ _ _).mono ?_; rintro e w1 ⟨rfl, hb1⟩; obtain ⟨hc1, hf1⟩ := bcell hb1; have hz1 := hb_lt hb1; have ca0 : w1.cell? ⟨w.heap.size, 0, none⟩ = some (.int .i64 p.space) := cell_to (by simp [go_sem]) hb1; have ca1 : w1.cell? ⟨w.heap.size, 1, none⟩ = some (.int .i64 p.need) := cell_to (by simp [go_sem]) hb1; have ca2 : w1.cell? ⟨w.heap.size, 2, none⟩ = some (.int .i64 p.ban) := cell_to (by simp [go_sem]) hb1; have ca3 : w1.cell? ⟨w.heap.size, 3, none⟩ = some (.int .i64 p.ways) := cell_to (by simp [go_sem]) hb1; have ca4 : w1.cell? ⟨w.heap.size, 4, none⟩ = some (.slice oa p.outs.length oc) := cell_to (by simp [go_sem]) hb1; have ca5 : w1.cell? ⟨w.heap.size, 5, none⟩ = some (.slice ia p.ins.length ic) := cell_to (by simp [go_sem]) hb1))
    refine (refRules_any p.outs _ _ _ _ (rdRules.to HO.out (by repeat (first | exact Below.refl _ _ | assumption | apply Ext.alloc | apply Ext.drewN | apply Ext.drew | refine Ext.trans ?_ (by assumption))))).mono ?_
    rintro e w2 ⟨rfl, hb2⟩; obtain ⟨hc2, hf2⟩ := bcell hb2; have hz2 := hb_lt hb2
    have cb0 := cell_to ca0 hb2
    have cb1 := cell_to ca1 hb2
    have cb2 := cell_to ca2 hb2
    have cb3 := cell_to ca3 hb2
    have cb4 := cell_to ca4 hb2
    have cb5 := cell_to ca5 hb2
    go_wp2_with fail
    refine (refRules_any p.ins _ _ _ _ (rdRules.to HI.out (by repeat (first | exact Below.refl _ _ | assumption | apply Ext.alloc | apply Ext.drewN | apply Ext.drew | refine Ext.trans ?_ (by assumption))))).mono ?_
    rintro e w3 ⟨rfl, hb3⟩; obtain ⟨hc3, hf3⟩ := bcell hb3; have hz3 := hb_lt hb3
    go_wp2
    go_ret
    exact ⟨ret_bool (by rw [HF.out]), (by repeat (first | exact Below.refl _ _ | assumption | apply Ext.alloc | apply Ext.drewN | apply Ext.drew | refine Ext.trans ?_ (by assumption)))⟩
  cases hq2 : selOk p.need p.ban
  · have HF := hid (show polOk p = false by rw [polOk, hq1, hq2]; rfl)
    go_enter Try.func21, Try.ntmps21
    go_wp2_with (first
      | (go_at_call 37; refine (between_any _ _ _ _).mono ?_; rintro e w' ⟨rfl, rfl⟩)
      | (go_at_call 38; refine (refSel_any _ _ _).mono ?_; rintro e w1 ⟨rfl, hb1⟩; obtain ⟨hc1, hf1⟩ := bcell hb1; have hz1 := hb_lt hb1; have ca0 : w1.cell? ⟨w.heap.size, 0, none⟩ = some (.int .i64 p.space) := cell_to (by simp [go_sem]) hb1; have ca1 : w1.cell? ⟨w.heap.size, 1, none⟩ = some (.int .i64 p.need) := cell_to (by simp [go_sem]) hb1; have ca2 : w1.cell? ⟨w.heap.size, 2, none⟩ = some (.int .i64 p.ban) := cell_to (by simp [go_sem]) hb1; have ca3 : w1.cell? ⟨w.heap.size, 3, none⟩ = some (.int .i64 p.ways) := cell_to (by simp [go_sem]) hb1; have ca4 : w1.cell? ⟨w.heap.size, 4, none⟩ = some (.slice oa p.outs.length oc) := cell_to (by simp [go_sem]) hb1; have ca5 : w1.cell? ⟨w.heap.size, 5, none⟩ = some (.slice ia p.ins.length ic) := cell_to (by simp [go_sem]) hb1))
    refine (refRules_any p.outs _ _ _ _ (rdRules.to HO.out (by repeat (first | exact Below.refl _ _ | assumption | apply Ext.alloc | apply Ext.drewN | apply Ext.drew | refine Ext.trans ?_ (by assumption))))).mono ?_
    rintro e w2 ⟨rfl, hb2⟩; obtain ⟨hc2, hf2⟩ := bcell hb2; have hz2 := hb_lt hb2
    have cb0 := cell_to ca0 hb2
    have cb1 := cell_to ca1 hb2
    have cb2 := cell_to ca2 hb2
    have cb3 := cell_to ca3 hb2
    have cb4 := cell_to ca4 hb2
    have cb5 := cell_to ca5 hb2
    go_wp2_with fail
    refine (refRules_any p.ins _ _ _ _ (rdRules.to HI.out (by repeat (first | exact Below.refl _ _ | assumption | apply Ext.alloc | apply Ext.drewN | apply Ext.drew | refine Ext.trans ?_ (by assumption))))).mono ?_
    rintro e w3 ⟨rfl, hb3⟩; obtain ⟨hc3, hf3⟩ := bcell hb3; have hz3 := hb_lt hb3
    go_wp2
    go_ret
    exact ⟨ret_bool (by rw [HF.out]), (by repeat (first | exact Below.refl _ _ | assumption | apply Ext.alloc | apply Ext.drewN | apply Ext.drew | refine Ext.trans ?_ (by assumption)))⟩
  cases hq3 : btw p.ways 1 3
  · have HF := hid (show polOk p = false by rw [polOk, hq1, hq2, hq3]; rfl)
    go_enter Try.func21, Try.ntmps21
    go_wp2_with (first
      | (go_at_call 37; refine (between_any _ _ _ _).mono ?_; rintro e w' ⟨rfl, rfl⟩)
      | (go_at_call 38; refine (refSel_any _ _ _).mono ?_; rintro e w1 ⟨rfl, hb1⟩; obtain ⟨hc1, hf1⟩ := bcell hb1; have hz1 := hb_lt hb1; have ca0 : w1.cell? ⟨w.heap.size, 0, none⟩ = some (.int .i64 p.space) := cell_to (by simp [go_sem]) hb1; have ca1 : w1.cell? ⟨w.heap.size, 1, none⟩ = some (.int .i64 p.need) := cell_to (by simp [go_sem]) hb1; have ca2 : w1.cell? ⟨w.heap.size, 2, none⟩ = some (.int .i64 p.ban) := cell_to (by simp [go_sem]) hb1; have ca3 : w1.cell? ⟨w.heap.size, 3, none⟩ = some (.int .i64 p.ways) := cell_to (by simp [go_sem]) hb1; have ca4 : w1.cell? ⟨w.heap.size, 4, none⟩ = some (.slice oa p.outs.length oc) := cell_to (by simp [go_sem]) hb1; have ca5 : w1.cell? ⟨w.heap.size, 5, none⟩ = some (.slice ia p.ins.length ic) := cell_to (by simp [go_sem]) hb1))
    refine (refRules_any p.outs _ _ _ _ (rdRules.to HO.out (by repeat (first | exact Below.refl _ _ | assumption | apply Ext.alloc | apply Ext.drewN | apply Ext.drew | refine Ext.trans ?_ (by assumption))))).mono ?_
    rintro e w2 ⟨rfl, hb2⟩; obtain ⟨hc2, hf2⟩ := bcell hb2; have hz2 := hb_lt hb2
    have cb0 := cell_to ca0 hb2
    have cb1 := cell_to ca1 hb2
    have cb2 := cell_to ca2 hb2
    have cb3 := cell_to ca3 hb2
    have cb4 := cell_to ca4 hb2
    have cb5 := cell_to ca5 hb2
    go_wp2_with fail
    refine (refRules_any p.ins _ _ _ _ (rdRules.to HI.out (by repeat (first | exact Below.refl _ _ | assumption | apply Ext.alloc | apply Ext.drewN | apply Ext.drew | refine Ext.trans ?_ (by assumption))))).mono ?_
    rintro e w3 ⟨rfl, hb3⟩; obtain ⟨hc3, hf3⟩ := bcell hb3; have hz3 := hb_lt hb3
    go_wp2
    go_ret
    exact ⟨ret_bool (by rw [HF.out]), (by repeat (first | exact Below.refl _ _ | assumption | apply Ext.alloc | apply Ext.drewN | apply Ext.drew | refine Ext.trans ?_ (by assumption)))⟩
  have hw := btw_true.1 hq3
  have HE := hid (show polOk p = (rulesOk p.outs (p.ways % 2 == 1) && rulesOk p.ins (p.ways / 2 == 1)) by rw [polOk, hq1, hq2, hq3, ibeq, ibeq]; rfl)
  cases hq4 : rulesOk p.outs (p.ways % 2 == 1)
  · have HF := hid (show polOk p = false by rw [HE.out, hq4]; rfl)
    go_enter Try.func21, Try.ntmps21
    go_wp2_with (first
      | (go_at_call 37; refine (between_any _ _ _ _).mono ?_; rintro e w' ⟨rfl, rfl⟩)
      | (go_at_call 38; refine (refSel_any _ _ _).mono ?_; rintro e w1 ⟨rfl, hb1⟩; obtain ⟨hc1, hf1⟩ := bcell hb1; have hz1 := hb_lt hb1; have ca0 : w1.cell? ⟨w.heap.size, 0, none⟩ = some (.int .i64 p.space) := cell_to (by simp [go_sem]) hb1; have ca1 : w1.cell? ⟨w.heap.size, 1, none⟩ = some (.int .i64 p.need) := cell_to (by simp [go_sem]) hb1; have ca2 : w1.cell? ⟨w.heap.size, 2, none⟩ = some (.int .i64 p.ban) := cell_to (by simp [go_sem]) hb1; have ca3 : w1.cell? ⟨w.heap.size, 3, none⟩ = some (.int .i64 p.ways) := cell_to (by simp [go_sem]) hb1; have ca4 : w1.cell? ⟨w.heap.size, 4, none⟩ = some (.slice oa p.outs.length oc) := cell_to (by simp [go_sem]) hb1; have ca5 : w1.cell? ⟨w.heap.size, 5, none⟩ = some (.slice ia p.ins.length ic) := cell_to (by simp [go_sem]) hb1))
    refine (refRules_any p.outs _ _ _ _ (rdRules.to HO.out (by repeat (first | exact Below.refl _ _ | assumption | apply Ext.alloc | apply Ext.drewN | apply Ext.drew | refine Ext.trans ?_ (by assumption))))).mono ?_
    rw [hq4]
    rintro e w2 ⟨rfl, hb2⟩; obtain ⟨hc2, hf2⟩ := bcell hb2; have hz2 := hb_lt hb2
    have cb0 := cell_to ca0 hb2
    have cb1 := cell_to ca1 hb2
    have cb2 := cell_to ca2 hb2
    have cb3 := cell_to ca3 hb2
    have cb4 := cell_to ca4 hb2
    have cb5 := cell_to ca5 hb2
    go_wp2_with fail
    refine (refRules_any p.ins _ _ _ _ (rdRules.to HI.out (by repeat (first | exact Below.refl _ _ | assumption | apply Ext.alloc | apply Ext.drewN | apply Ext.drew | refine Ext.trans ?_ (by assumption))))).mono ?_
    rintro e w3 ⟨rfl, hb3⟩; obtain ⟨hc3, hf3⟩ := bcell hb3; have hz3 := hb_lt hb3
    go_wp2
    go_ret
    exact ⟨ret_bool (by rw [HF.out]), (by repeat (first | exact Below.refl _ _ | assumption | apply Ext.alloc | apply Ext.drewN | apply Ext.drew | refine Ext.trans ?_ (by assumption)))⟩
  have HF := hid (show polOk p = rulesOk p.ins (p.ways / 2 == 1) by rw [HE.out, hq4]; rfl)
  go_enter Try.func21, Try.ntmps21
  go_wp2_with (first
    | (go_at_call 37; refine (between_any _ _ _ _).mono ?_; rintro e w' ⟨rfl, rfl⟩)
    | (go_at_call 38; refine (refSel_any _ _ _).mono ?_; rintro e w1 ⟨rfl, hb1⟩; obtain ⟨hc1, hf1⟩ := bcell hb1; have hz1 := hb_lt hb1; have ca0 : w1.cell? ⟨w.heap.size, 0, none⟩ = some (.int .i64 p.space) := cell_to (by simp [go_sem]) hb1; have ca1 : w1.cell? ⟨w.heap.size, 1, none⟩ = some (.int .i64 p.need) := cell_to (by simp [go_sem]) hb1; have ca2 : w1.cell? ⟨w.heap.size, 2, none⟩ = some (.int .i64 p.ban) := cell_to (by simp [go_sem]) hb1; have ca3 : w1.cell? ⟨w.heap.size, 3, none⟩ = some (.int .i64 p.ways) := cell_to (by simp [go_sem]) hb1; have ca4 : w1.cell? ⟨w.heap.size, 4, none⟩ = some (.slice oa p.outs.length oc) := cell_to (by simp [go_sem]) hb1; have ca5 : w1.cell? ⟨w.heap.size, 5, none⟩ = some (.slice ia p.ins.length ic) := cell_to (by simp [go_sem]) hb1))
  refine (refRules_any p.outs _ _ _ _ (rdRules.to HO.out (by repeat (first | exact Below.refl _ _ | assumption | apply Ext.alloc | apply Ext.drewN | apply Ext.drew | refine Ext.trans ?_ (by assumption))))).mono ?_
  rw [hq4]
  rintro e w2 ⟨rfl, hb2⟩; obtain ⟨hc2, hf2⟩ := bcell hb2; have hz2 := hb_lt hb2
  have cb0 := cell_to ca0 hb2
  have cb1 := cell_to ca1 hb2
  have cb2 := cell_to ca2 hb2
  have cb3 := cell_to ca3 hb2
  have cb4 := cell_to ca4 hb2
  have cb5 := cell_to ca5 hb2
  go_wp2_with fail
  refine (refRules_any p.ins _ _ _ _ (rdRules.to HI.out (by repeat (first | exact Below.refl _ _ | assumption | apply Ext.alloc | apply Ext.drewN | apply Ext.drew | refine Ext.trans ?_ (by assumption))))).mono ?_
  rintro e w3 ⟨rfl, hb3⟩; obtain ⟨hc3, hf3⟩ := bcell hb3; have hz3 := hb_lt hb3
  go_wp2
  go_ret
  exact ⟨ret_bool (by rw [HF.out]), (by repeat (first | exact Below.refl _ _ | assumption | apply Ext.alloc | apply Ext.drewN | apply Ext.drew | refine Ext.trans ?_ (by assumption)))⟩
end Go.Proofs.Ytmkjlhplgcifiaa
