/-
  The document's answer: when a policy is right.
  The document's answer: P3.
  The document's answer: the pod with an address; whether a peer has an address.
  palisadekeep: raw things made right: pick, selector, block; at, has.
-/
import Derived.Test.YtmkjlhplgcifiaaGreatQ17
import Derived.Test.YtmkjlhplgcifiaaGreatQ12
import Derived.Test.YtmkjlhplgcifiaaGreatQ13
import Derived.Test.YtmkjlhplgcifiaaGreatQ08
import Derived.Test.YtmkjlhplgcifiaaGreatQ04
namespace Go.Proofs.YtmkjlhplgcifiaaGreat
open Go.ChangeShapes Go.WideShapes Go.ChangeAt Go.RowKit
attribute [local simp] World.cell?_grow
attribute [local go_sem] World.cell?_grow
attribute [local simp] World.cell?_alloc_there
attribute [local go_sem] World.cell?_alloc_there
attribute [local go_sem] eqg_blk std_blk eqg_pod std_pod eqg_sel std_sel eqg_prt std_prt
attribute [local go_sem ↓] eql_blk eql_sel neq_sel eql_prt eql_pod
attribute [local go_sem ↓] met_in1 met_in2 met_re1 met_re2
attribute [local go_sem ↓] met_has1 met_has2
set_option linter.unusedVariables false
set_option linter.unusedSimpArgs false

set_option maxHeartbeats 4000000 in
theorem refPolicy_any (p : DPol) (oa ia : Option Addr) (oc ic : Nat) (w : World) (ho : rdRules w.heap.size w oa p.outs) (hi : rdRules w.heap.size w ia p.ins) :
    Calls Tryz.prog 107 #[.agg #[.int .i64 p.space, .int .i64 p.need, .int .i64 p.ban, .int .i64 p.ways, .slice oa p.outs.length oc, .slice ia p.ins.length ic]] w fun e w' => e = .returned (.bool (polOk p)) ∧ Below w.heap.size w w' := by
  have HO := hid ho
  have HI := hid hi
  clear ho hi
  cases hq1 : btw p.space 0 3
  · have HF := hid (show polOk p = false by rw [polOk, hq1]; rfl)
    go_enter Tryz.func107, Tryz.ntmps107
    go_wp2_with (first
      | (go_at_call 113; refine (between_any _ _ _ _).mono ?_; rintro e w' ⟨rfl, rfl⟩)
      | (go_at_call 137; refine (refSel_any _ _ _).mono ?_; rintro e w1 ⟨rfl, hb1⟩; obtain ⟨hc1, hf1⟩ := bcell hb1; have hz1 := hb_lt hb1; have ca0 : w1.cell? ⟨w.heap.size, 0, none⟩ = some (.int .i64 p.space) := cell_to (by simp [go_sem]) hb1; have ca1 : w1.cell? ⟨w.heap.size, 1, none⟩ = some (.int .i64 p.need) := cell_to (by simp [go_sem]) hb1; have ca2 : w1.cell? ⟨w.heap.size, 2, none⟩ = some (.int .i64 p.ban) := cell_to (by simp [go_sem]) hb1; have ca3 : w1.cell? ⟨w.heap.size, 3, none⟩ = some (.int .i64 p.ways) := cell_to (by simp [go_sem]) hb1; have ca4 : w1.cell? ⟨w.heap.size, 4, none⟩ = some (.slice oa p.outs.length oc) := cell_to (by simp [go_sem]) hb1; have ca5 : w1.cell? ⟨w.heap.size, 5, none⟩ = some (.slice ia p.ins.length ic) := cell_to (by simp [go_sem]) hb1))
    refine (refRules_any p.outs _ _ _ _ (rdRules.to HO.out (by repeat (first | exact Below.refl _ _ | assumption | apply Ext.alloc | apply Ext.drewN | apply Ext.drew | refine Ext.trans ?_ (by assumption))))).mono ?_
    rintro e w2 ⟨rfl, hb2⟩; obtain ⟨hc2, hf2⟩ := bcell hb2; have hz2 := hb_lt hb2
    have cb0 := cell_to ca0 hb2
    have cb1 := cell_to ca1 hb2
    have cb2 := cell_to ca2 hb2
    have cb3 := cell_to ca3 hb2
    have cb4 := cell_to ca4 hb2
    have cb5 := cell_to ca5 hb2
    go_wp2_with fail
    refine (refRules_any p.ins _ _ _ _ (rdRules.to HI.out (by repeat (first | exact Below.refl _ _ | assumption | apply Ext.alloc | apply Ext.drewN | apply Ext.drew | refine Ext.trans ?_ (by assumption))))).mono ?_
    rintro e w3 ⟨rfl, hb3⟩; obtain ⟨hc3, hf3⟩ := bcell hb3; have hz3 := hb_lt hb3
    go_wp2
    go_ret
    exact ⟨ret_bool (by rw [HF.out]), (by repeat (first | exact Below.refl _ _ | assumption | apply Ext.alloc | apply Ext.drewN | apply Ext.drew | refine Ext.trans ?_ (by assumption)))⟩
  cases hq2 : selOk p.need p.ban
  · have HF := hid (show polOk p = false by rw [polOk, hq1, hq2]; rfl)
    go_enter Tryz.func107, Tryz.ntmps107
    go_wp2_with (first
      | (go_at_call 113; refine (between_any _ _ _ _).mono ?_; rintro e w' ⟨rfl, rfl⟩)
      | (go_at_call 137; refine (refSel_any _ _ _).mono ?_; rintro e w1 ⟨rfl, hb1⟩; obtain ⟨hc1, hf1⟩ := bcell hb1; have hz1 := hb_lt hb1; have ca0 : w1.cell? ⟨w.heap.size, 0, none⟩ = some (.int .i64 p.space) := cell_to (by simp [go_sem]) hb1; have ca1 : w1.cell? ⟨w.heap.size, 1, none⟩ = some (.int .i64 p.need) := cell_to (by simp [go_sem]) hb1; have ca2 : w1.cell? ⟨w.heap.size, 2, none⟩ = some (.int .i64 p.ban) := cell_to (by simp [go_sem]) hb1; have ca3 : w1.cell? ⟨w.heap.size, 3, none⟩ = some (.int .i64 p.ways) := cell_to (by simp [go_sem]) hb1; have ca4 : w1.cell? ⟨w.heap.size, 4, none⟩ = some (.slice oa p.outs.length oc) := cell_to (by simp [go_sem]) hb1; have ca5 : w1.cell? ⟨w.heap.size, 5, none⟩ = some (.slice ia p.ins.length ic) := cell_to (by simp [go_sem]) hb1))
    refine (refRules_any p.outs _ _ _ _ (rdRules.to HO.out (by repeat (first | exact Below.refl _ _ | assumption | apply Ext.alloc | apply Ext.drewN | apply Ext.drew | refine Ext.trans ?_ (by assumption))))).mono ?_
    rintro e w2 ⟨rfl, hb2⟩; obtain ⟨hc2, hf2⟩ := bcell hb2; have hz2 := hb_lt hb2
    have cb0 := cell_to ca0 hb2
    have cb1 := cell_to ca1 hb2
    have cb2 := cell_to ca2 hb2
    have cb3 := cell_to ca3 hb2
    have cb4 := cell_to ca4 hb2
    have cb5 := cell_to ca5 hb2
    go_wp2_with fail
    refine (refRules_any p.ins _ _ _ _ (rdRules.to HI.out (by repeat (first | exact Below.refl _ _ | assumption | apply Ext.alloc | apply Ext.drewN | apply Ext.drew | refine Ext.trans ?_ (by assumption))))).mono ?_
    rintro e w3 ⟨rfl, hb3⟩; obtain ⟨hc3, hf3⟩ := bcell hb3; have hz3 := hb_lt hb3
    go_wp2
    go_ret
    exact ⟨ret_bool (by rw [HF.out]), (by repeat (first | exact Below.refl _ _ | assumption | apply Ext.alloc | apply Ext.drewN | apply Ext.drew | refine Ext.trans ?_ (by assumption)))⟩
  cases hq3 : btw p.ways 1 3
  · have HF := hid (show polOk p = false by rw [polOk, hq1, hq2, hq3]; rfl)
    go_enter Tryz.func107, Tryz.ntmps107
    go_wp2_with (first
      | (go_at_call 113; refine (between_any _ _ _ _).mono ?_; rintro e w' ⟨rfl, rfl⟩)
      | (go_at_call 137; refine (refSel_any _ _ _).mono ?_; rintro e w1 ⟨rfl, hb1⟩; obtain ⟨hc1, hf1⟩ := bcell hb1; have hz1 := hb_lt hb1; have ca0 : w1.cell? ⟨w.heap.size, 0, none⟩ = some (.int .i64 p.space) := cell_to (by simp [go_sem]) hb1; have ca1 : w1.cell? ⟨w.heap.size, 1, none⟩ = some (.int .i64 p.need) := cell_to (by simp [go_sem]) hb1; have ca2 : w1.cell? ⟨w.heap.size, 2, none⟩ = some (.int .i64 p.ban) := cell_to (by simp [go_sem]) hb1; have ca3 : w1.cell? ⟨w.heap.size, 3, none⟩ = some (.int .i64 p.ways) := cell_to (by simp [go_sem]) hb1; have ca4 : w1.cell? ⟨w.heap.size, 4, none⟩ = some (.slice oa p.outs.length oc) := cell_to (by simp [go_sem]) hb1; have ca5 : w1.cell? ⟨w.heap.size, 5, none⟩ = some (.slice ia p.ins.length ic) := cell_to (by simp [go_sem]) hb1))
    refine (refRules_any p.outs _ _ _ _ (rdRules.to HO.out (by repeat (first | exact Below.refl _ _ | assumption | apply Ext.alloc | apply Ext.drewN | apply Ext.drew | refine Ext.trans ?_ (by assumption))))).mono ?_
    rintro e w2 ⟨rfl, hb2⟩; obtain ⟨hc2, hf2⟩ := bcell hb2; have hz2 := hb_lt hb2
    have cb0 := cell_to ca0 hb2
    have cb1 := cell_to ca1 hb2
    have cb2 := cell_to ca2 hb2
    have cb3 := cell_to ca3 hb2
    have cb4 := cell_to ca4 hb2
    have cb5 := cell_to ca5 hb2
    go_wp2_with fail
    refine (refRules_any p.ins _ _ _ _ (rdRules.to HI.out (by repeat (first | exact Below.refl _ _ | assumption | apply Ext.alloc | apply Ext.drewN | apply Ext.drew | refine Ext.trans ?_ (by assumption))))).mono ?_
    rintro e w3 ⟨rfl, hb3⟩; obtain ⟨hc3, hf3⟩ := bcell hb3; have hz3 := hb_lt hb3
    go_wp2
    go_ret
    exact ⟨ret_bool (by rw [HF.out]), (by repeat (first | exact Below.refl _ _ | assumption | apply Ext.alloc | apply Ext.drewN | apply Ext.drew | refine Ext.trans ?_ (by assumption)))⟩
  have hw := btw_true.1 hq3
  have HE := hid (show polOk p = (rulesOk p.outs (p.ways % 2 == 1) && rulesOk p.ins (p.ways / 2 == 1)) by rw [polOk, hq1, hq2, hq3, ibeq, ibeq]; rfl)
  cases hq4 : rulesOk p.outs (p.ways % 2 == 1)
  · have HF := hid (show polOk p = false by rw [HE.out, hq4]; rfl)
    go_enter Tryz.func107, Tryz.ntmps107
    go_wp2_with (first
      | (go_at_call 113; refine (between_any _ _ _ _).mono ?_; rintro e w' ⟨rfl, rfl⟩)
      | (go_at_call 137; refine (refSel_any _ _ _).mono ?_; rintro e w1 ⟨rfl, hb1⟩; obtain ⟨hc1, hf1⟩ := bcell hb1; have hz1 := hb_lt hb1; have ca0 : w1.cell? ⟨w.heap.size, 0, none⟩ = some (.int .i64 p.space) := cell_to (by simp [go_sem]) hb1; have ca1 : w1.cell? ⟨w.heap.size, 1, none⟩ = some (.int .i64 p.need) := cell_to (by simp [go_sem]) hb1; have ca2 : w1.cell? ⟨w.heap.size, 2, none⟩ = some (.int .i64 p.ban) := cell_to (by simp [go_sem]) hb1; have ca3 : w1.cell? ⟨w.heap.size, 3, none⟩ = some (.int .i64 p.ways) := cell_to (by simp [go_sem]) hb1; have ca4 : w1.cell? ⟨w.heap.size, 4, none⟩ = some (.slice oa p.outs.length oc) := cell_to (by simp [go_sem]) hb1; have ca5 : w1.cell? ⟨w.heap.size, 5, none⟩ = some (.slice ia p.ins.length ic) := cell_to (by simp [go_sem]) hb1))
    refine (refRules_any p.outs _ _ _ _ (rdRules.to HO.out (by repeat (first | exact Below.refl _ _ | assumption | apply Ext.alloc | apply Ext.drewN | apply Ext.drew | refine Ext.trans ?_ (by assumption))))).mono ?_
    rw [hq4]
    rintro e w2 ⟨rfl, hb2⟩; obtain ⟨hc2, hf2⟩ := bcell hb2; have hz2 := hb_lt hb2
    have cb0 := cell_to ca0 hb2
    have cb1 := cell_to ca1 hb2
    have cb2 := cell_to ca2 hb2
    have cb3 := cell_to ca3 hb2
    have cb4 := cell_to ca4 hb2
    have cb5 := cell_to ca5 hb2
    go_wp2_with fail
    refine (refRules_any p.ins _ _ _ _ (rdRules.to HI.out (by repeat (first | exact Below.refl _ _ | assumption | apply Ext.alloc | apply Ext.drewN | apply Ext.drew | refine Ext.trans ?_ (by assumption))))).mono ?_
    rintro e w3 ⟨rfl, hb3⟩; obtain ⟨hc3, hf3⟩ := bcell hb3; have hz3 := hb_lt hb3
    go_wp2
    go_ret
    exact ⟨ret_bool (by rw [HF.out]), (by repeat (first | exact Below.refl _ _ | assumption | apply Ext.alloc | apply Ext.drewN | apply Ext.drew | refine Ext.trans ?_ (by assumption)))⟩
  have HF := hid (show polOk p = rulesOk p.ins (p.ways / 2 == 1) by rw [HE.out, hq4]; rfl)
  go_enter Tryz.func107, Tryz.ntmps107
  go_wp2_with (first
    | (go_at_call 113; refine (between_any _ _ _ _).mono ?_; rintro e w' ⟨rfl, rfl⟩)
    | (go_at_call 137; refine (refSel_any _ _ _).mono ?_; rintro e w1 ⟨rfl, hb1⟩; obtain ⟨hc1, hf1⟩ := bcell hb1; have hz1 := hb_lt hb1; have ca0 : w1.cell? ⟨w.heap.size, 0, none⟩ = some (.int .i64 p.space) := cell_to (by simp [go_sem]) hb1; have ca1 : w1.cell? ⟨w.heap.size, 1, none⟩ = some (.int .i64 p.need) := cell_to (by simp [go_sem]) hb1; have ca2 : w1.cell? ⟨w.heap.size, 2, none⟩ = some (.int .i64 p.ban) := cell_to (by simp [go_sem]) hb1; have ca3 : w1.cell? ⟨w.heap.size, 3, none⟩ = some (.int .i64 p.ways) := cell_to (by simp [go_sem]) hb1; have ca4 : w1.cell? ⟨w.heap.size, 4, none⟩ = some (.slice oa p.outs.length oc) := cell_to (by simp [go_sem]) hb1; have ca5 : w1.cell? ⟨w.heap.size, 5, none⟩ = some (.slice ia p.ins.length ic) := cell_to (by simp [go_sem]) hb1))
  refine (refRules_any p.outs _ _ _ _ (rdRules.to HO.out (by repeat (first | exact Below.refl _ _ | assumption | apply Ext.alloc | apply Ext.drewN | apply Ext.drew | refine Ext.trans ?_ (by assumption))))).mono ?_
  rw [hq4]
  rintro e w2 ⟨rfl, hb2⟩; obtain ⟨hc2, hf2⟩ := bcell hb2; have hz2 := hb_lt hb2
  have cb0 := cell_to ca0 hb2
  have cb1 := cell_to ca1 hb2
  have cb2 := cell_to ca2 hb2
  have cb3 := cell_to ca3 hb2
  have cb4 := cell_to ca4 hb2
  have cb5 := cell_to ca5 hb2
  go_wp2_with fail
  refine (refRules_any p.ins _ _ _ _ (rdRules.to HI.out (by repeat (first | exact Below.refl _ _ | assumption | apply Ext.alloc | apply Ext.drewN | apply Ext.drew | refine Ext.trans ?_ (by assumption))))).mono ?_
  rintro e w3 ⟨rfl, hb3⟩; obtain ⟨hc3, hf3⟩ := bcell hb3; have hz3 := hb_lt hb3
  go_wp2
  go_ret
  exact ⟨ret_bool (by rw [HF.out]), (by repeat (first | exact Below.refl _ _ | assumption | apply Ext.alloc | apply Ext.drewN | apply Ext.drew | refine Ext.trans ?_ (by assumption)))⟩
end Go.Proofs.YtmkjlhplgcifiaaGreat
namespace Go.Proofs.YtmkjlhplgcifiaaGreat
open Go.ChangeShapes Go.WideShapes Go.ChangeAt Go.RowKit
attribute [local simp] World.cell?_grow
attribute [local go_sem] World.cell?_grow
attribute [local simp] World.cell?_alloc_there
attribute [local go_sem] World.cell?_alloc_there
attribute [local go_sem] eqg_blk std_blk eqg_pod std_pod eqg_sel std_sel eqg_prt std_prt
attribute [local go_sem ↓] eql_blk eql_sel neq_sel eql_prt eql_pod
attribute [local go_sem ↓] met_in1 met_in2 met_re1 met_re2
attribute [local go_sem ↓] met_has1 met_has2
set_option linter.unusedVariables false
set_option linter.unusedSimpArgs false

theorem podGood_all {l : List DPod} {k : Nat} {p : DPod} (h : l[k]? = some p) : podGood l k = (podOk p && (l.take k).all fun q => decide (q.ip ≠ p.ip)) := by rw [podGood, h]
theorem take_all' {α : Type} {l : List α} {f : α → Bool} {k : Nat} {x : α} (h : l[k]? = some x) : (l.take (k + 1)).all f = ((l.take k).all f && f x) := by
  rw [List.take_add_one, h, List.all_append]; simp
theorem ibne (a b : Int) : (a != b) = decide (a ≠ b) := by by_cases h : a = b <;> simp [h]

set_option maxRecDepth 100000 in
set_option maxHeartbeats 8000000 in
theorem refRight_any (c : DClu) (pa qa : Option Addr) (pc qc : Nat) (w : World) (hp : rdPods w.heap.size w pa c.pods) (hq : rdPols w.heap.size w qa c.pols) :
    Calls Tryz.prog 75 #[.agg #[.slice pa c.pods.length pc, .slice qa c.pols.length qc]] w fun e w' => e = .returned (.tuple #[.int .i64 (right c).1, .int .i64 (right c).2]) ∧ Below w.heap.size w w' := by
  have HP := hid hp
  have HQ := hid hq
  have hl1 := hp.1
  have hl2 := hq.1
  clear hp hq
  by_cases hn : 8 < c.pods.length
  · have HR := hid (right_many (c := c) (Or.inl hn))
    go_enter Tryz.func75, Tryz.ntmps75
    go_wp2
    go_ret2
    exact ⟨by rw [HR.out]; rfl, (by repeat (first | exact Below.refl _ _ | assumption | apply Ext.alloc | apply Ext.drewN | apply Ext.drew | refine Ext.trans ?_ (by assumption)))⟩
  by_cases hm : 4 < c.pols.length
  · have HR := hid (right_many (c := c) (Or.inr hm))
    go_enter Tryz.func75, Tryz.ntmps75
    go_wp2
    go_ret2
    exact ⟨by rw [HR.out]; rfl, (by repeat (first | exact Below.refl _ _ | assumption | apply Ext.alloc | apply Ext.drewN | apply Ext.drew | refine Ext.trans ?_ (by assumption)))⟩
  have HN := hid (show ¬ (8 < c.pods.length ∨ 4 < c.pols.length) by omega)
  go_enter Tryz.func75, Tryz.ntmps75
  go_wp2
  go_loopw [4] (fun i wr => ∃ k : Nat, k ≤ c.pods.length ∧ i = .int .i64 k ∧ (∀ j, j < k → podGood c.pods j = true) ∧ Below (w.alloc (Obj.cells #[.slice pa c.pods.length pc, .slice qa c.pols.length qc] 28)).heap.size (w.alloc (Obj.cells #[.slice pa c.pods.length pc, .slice qa c.pols.length qc] 28)) wr) (fun i _ => c.pods.length - (intOf i).toNat)
  case atStart => exact ⟨0, Nat.zero_le _, rfl, fun j hj => absurd hj (Nat.not_lt_zero _), Below.refl _ _⟩
  case round =>
    obtain ⟨k, hk, rfl, hall, hbw⟩ := hrel
    have HA := hid hall
    clear hall
    have HW := hid hbw
    have hB : Below w.heap.size w wr := (Below.refl _ _ |>.alloc (Nat.le_refl _) _).trans (hbw.mono (by simp))
    clear hbw
    have z0 : wr.cell? ⟨w.heap.size, 0, none⟩ = some (.slice pa c.pods.length pc) := cell_to (by simp [go_sem]) HW.out
    have z1 : wr.cell? ⟨w.heap.size, 1, none⟩ = some (.slice qa c.pols.length qc) := cell_to (by simp [go_sem]) HW.out
    by_cases hlt : k < c.pods.length
    · obtain ⟨x, hxk⟩ : ∃ x, c.pods[k]? = some x := ⟨c.pods[k], by simp [hlt]⟩
      have HX := hid hxk
      have HG := hid (podGood_all hxk)
      clear hxk
      obtain ⟨b, off, rfl, hb, c0, c1, c2, c3⟩ := HP.out.2 k x HX.out
      have d0 := cell_to c0 hB
      have d1 := cell_to c1 hB
      have d2 := cell_to c2 hB
      have d3 := cell_to c3 hB
      obtain ⟨wa, hwa⟩ : ∃ wa, wa = wr := ⟨_, rfl⟩
      subst hwa
      go_wp2_with (go_at_call 106; refine (refPod_any x _).mono ?_; rintro e w2 ⟨rfl, hb2⟩; obtain ⟨hc2, hf2⟩ := bcell hb2; have hz2 := hb_lt hb2)
      have y0 := cell_to z0 hb2
      have y1 := cell_to z1 hb2
      have D1 := hid (cell_to d1 hb2)
      have hB2 : Below w.heap.size w w2 := Ext.trans hB hb2
      have HW2 := hid (Ext.trans HW.out hb2)
      clear c0 c1 c2 c3 d0 d1 d2 d3 z0 z1 hc2 hf2 hz2
      go_loopw [5, 6] (fun ok i wr => ∃ t : Nat, t ≤ k ∧ i = .int .i64 t ∧ ok = .bool (podOk x && (c.pods.take t).all fun q => decide (q.ip ≠ x.ip)) ∧ Below w2.heap.size w2 wr) (fun _ i _ => k - (intOf i).toNat)
      case atStart => exact ⟨0, Nat.zero_le _, rfl, by simp, Below.refl _ _⟩
      case round =>
        obtain ⟨t, ht, rfl, rfl, hbv⟩ := hrel
        have hC : Below w.heap.size w wr := Ext.trans hB2 hbv
        have z0 := cell_to y0 hbv
        have z1 := cell_to y1 hbv
        by_cases hlt2 : t < k
        · obtain ⟨y, hyk⟩ : ∃ y, c.pods[t]? = some y := ⟨c.pods[t]'(by omega), by simp⟩
          have HY := hid hyk
          have HT := hid (take_all' (f := fun q => decide (q.ip ≠ x.ip)) hyk)
          clear hyk
          obtain ⟨b2, off2, he, hb2', c0, c1, c2, c3⟩ := HP.out.2 t y HY.out
          cases he
          have dy1 := cell_to c1 hC
          have dx1 := cell_to D1.out hbv
          clear c0 c1 c2 c3
          generalize hg : (podOk x && (c.pods.take t).all fun q => decide (q.ip ≠ x.ip)) = g
          have HH := hid (show (podOk x && (c.pods.take (t + 1)).all fun q => decide (q.ip ≠ x.ip)) = (g && (y.ip != x.ip)) by rw [HT.out, ← Bool.and_assoc, hg, ibne])
          clear hg
          cases g
          · go_wp2
            refine wp_region_grow (by kernel_rfl) (by kernel_rfl) ?_
            repeat (go_big_quiet_step (fail))
            refine wpQuiet_nil ?_
            intro w1 hb1
            obtain ⟨hc1, hf1⟩ := bcell hb1
            have hz1 := hb_lt hb1
            go_wp2
            exact ⟨⟨t + 1, by omega, by go_num, by rw [HH.out]; rfl, Ext.trans hbv hb1⟩, by simp [intOf]; omega⟩
          · go_wp2
            refine wp_region_grow (by kernel_rfl) (by kernel_rfl) ?_
            repeat (go_big_quiet_step (fail))
            refine wpQuiet_nil ?_
            intro w1 hb1
            obtain ⟨hc1, hf1⟩ := bcell hb1
            have hz1 := hb_lt hb1
            go_wp2
            exact ⟨⟨t + 1, by omega, by go_num, by rw [HH.out]; simp, Ext.trans hbv hb1⟩, by simp [intOf]; omega⟩
        · have e : t = k := by omega
          subst e
          cases hg : podGood c.pods t
          · have HF := hid (right_pod HN.out (firstBad_some HA.out hlt hg))
            have HH := hid (show (podOk x && (c.pods.take t).all fun q => decide (q.ip ≠ x.ip)) = false by rw [← HG.out, hg])
            rw [HH.out]
            clear hg
            go_wp2
            go_ret2
            exact ⟨by rw [HF.out]; rfl, hC⟩
          · have HH := hid (show (podOk x && (c.pods.take t).all fun q => decide (q.ip ≠ x.ip)) = true by rw [← HG.out, hg])
            have HI := hid hg
            rw [HH.out]
            clear hg
            go_wp2
            exact ⟨⟨t + 1, by omega, by go_num, fun j hj => by
              rcases Nat.lt_succ_iff_lt_or_eq.1 hj with h | h
              · exact HA.out j h
              · subst h; exact HI.out, Ext.trans HW2.out hbv⟩, by simp [intOf]; omega⟩
    · have HD := hid (firstBad_none (good := podGood c.pods) (n := c.pods.length) (fun j hj => HA.out j (by omega)))
      obtain ⟨wa, hwa⟩ : ∃ wa, wa = wr := ⟨_, rfl⟩
      subst hwa
      go_wp2
      go_loopw [7] (fun i wr => ∃ j : Nat, j ≤ c.pols.length ∧ i = .int .i64 j ∧ (∀ t, t < j → polGood c.pols t = true) ∧ Below wa.heap.size wa wr) (fun i _ => c.pols.length - (intOf i).toNat)
      case atStart => exact ⟨0, Nat.zero_le _, rfl, fun j hj => absurd hj (Nat.not_lt_zero _), Below.refl _ _⟩
      case round =>
        obtain ⟨j, hj, rfl, hall, hbw⟩ := hrel
        have HE := hid hall
        clear hall
        have hC : Below w.heap.size w wr := Ext.trans hB hbw
        have y1 := cell_to z1 hbw
        by_cases hlt2 : j < c.pols.length
        · obtain ⟨x, hxk⟩ : ∃ x, c.pols[j]? = some x := ⟨c.pols[j], by simp [hlt2]⟩
          have HX := hid hxk
          have HG := hid (polGood_some hxk)
          clear hxk
          obtain ⟨b, off, rfl, hb, c0, c1, c2, c3, ⟨oa, oc, c4, ho⟩, ia, ic, c5, hi⟩ := HQ.out.2 j x HX.out
          have d0 := cell_to c0 hC
          have d1 := cell_to c1 hC
          have d2 := cell_to c2 hC
          have d3 := cell_to c3 hC
          have d4 := cell_to c4 hC
          have d5 := cell_to c5 hC
          have HO := hid ho
          have HI := hid hi
          clear c0 c1 c2 c3 c4 c5 ho hi
          cases hq1 : polOk x
          · have HF := hid (right_pol HN.out HD.out (firstBad_some HE.out hlt2 (by rw [HG.out, hq1])))
            go_wp2_with (go_at_call 107; refine (refPolicy_any x _ _ _ _ _ (rdRules.to HO.out (by repeat (first | exact Below.refl _ _ | assumption | apply Ext.alloc | apply Ext.drewN | apply Ext.drew | refine Ext.trans ?_ (by assumption)))) (rdRules.to HI.out (by repeat (first | exact Below.refl _ _ | assumption | apply Ext.alloc | apply Ext.drewN | apply Ext.drew | refine Ext.trans ?_ (by assumption))))).mono ?_; rintro e w1 ⟨rfl, hb1⟩; obtain ⟨hc1, hf1⟩ := bcell hb1; have hz1 := hb_lt hb1)
            go_ret2
            exact ⟨by rw [HF.out]; rfl, Ext.trans hC hb1⟩
          · go_wp2_with (go_at_call 107; refine (refPolicy_any x _ _ _ _ _ (rdRules.to HO.out (by repeat (first | exact Below.refl _ _ | assumption | apply Ext.alloc | apply Ext.drewN | apply Ext.drew | refine Ext.trans ?_ (by assumption)))) (rdRules.to HI.out (by repeat (first | exact Below.refl _ _ | assumption | apply Ext.alloc | apply Ext.drewN | apply Ext.drew | refine Ext.trans ?_ (by assumption))))).mono ?_; rintro e w1 ⟨rfl, hb1⟩; obtain ⟨hc1, hf1⟩ := bcell hb1; have hz1 := hb_lt hb1)
            exact ⟨⟨j + 1, by omega, by go_num, fun t ht => by
              rcases Nat.lt_succ_iff_lt_or_eq.1 ht with h | h
              · exact HE.out t h
              · subst h; rw [HG.out, hq1], Ext.trans hbw hb1⟩, by simp [intOf]; omega⟩
        · have HF := hid (right_ok HN.out HD.out (firstBad_none (fun t ht => HE.out t (by omega))))
          go_wp2
          go_ret2
          exact ⟨by rw [HF.out]; rfl, hC⟩
end Go.Proofs.YtmkjlhplgcifiaaGreat
namespace Go.Proofs.YtmkjlhplgcifiaaGreat
open Go.ChangeShapes Go.WideShapes Go.ChangeAt Go.RowKit
attribute [local simp] World.cell?_grow
attribute [local go_sem] World.cell?_grow
attribute [local simp] World.cell?_alloc_there
attribute [local go_sem] World.cell?_alloc_there
attribute [local go_sem] eqg_blk std_blk eqg_pod std_pod eqg_sel std_sel eqg_prt std_prt
attribute [local go_sem ↓] eql_blk eql_sel neq_sel eql_prt eql_pod
attribute [local go_sem ↓] met_in1 met_in2 met_re1 met_re2
attribute [local go_sem ↓] met_has1 met_has2
set_option linter.unusedVariables false
set_option linter.unusedSimpArgs false

def ixOf (l : List DPod) (ip : Int) : Int := match l.findIdx? (fun p => decide (p.ip = ip)) with | some k => k | none => -1
theorem ix_at {l : List DPod} {k : Nat} {x : DPod} {ip : Int} (h : l[k]? = some x) (hb : ∀ j y, j < k → l[j]? = some y → ¬ y.ip = ip) (hx : x.ip = ip) : ixOf l ip = k := by
  obtain ⟨hk, he⟩ := List.getElem?_eq_some_iff.1 h
  have : l.findIdx? (fun p => decide (p.ip = ip)) = some k := by
    rw [List.findIdx?_eq_some_iff_getElem]
    refine ⟨hk, by simp [he, hx], fun j hj => ?_⟩
    have := hb j l[j] hj (by simp)
    simp [this]
  rw [ixOf, this]
theorem ix_none {l : List DPod} {ip : Int} (hb : ∀ j y, j < l.length → l[j]? = some y → ¬ y.ip = ip) : ixOf l ip = -1 := by
  have : l.findIdx? (fun p => decide (p.ip = ip)) = none := by
    rw [List.findIdx?_eq_none_iff]
    intro x hx
    obtain ⟨j, hj, he⟩ := List.getElem_of_mem hx
    have := hb j x hj (by rw [List.getElem?_eq_getElem hj, he])
    simp [this]
  rw [ixOf, this]
theorem podAt_ix {l : List DPod} {ip : Int} {p : DPod} (h : podAt l ip = some p) : ∃ k : Nat, l[k]? = some p ∧ ixOf l ip = k := by
  unfold podAt at h
  rw [List.find?_eq_some_iff_getElem] at h
  obtain ⟨hp, k, hk, he, hb⟩ := h
  have hk2 : l[k]? = some p := by rw [List.getElem?_eq_getElem hk, he]
  refine ⟨k, hk2, ix_at hk2 (fun j y hj hy => ?_) (by simpa using hp)⟩
  have := hb j hj
  obtain ⟨h1, h2⟩ := List.getElem?_eq_some_iff.1 hy
  rw [h2] at this
  simpa using this
theorem podAt_ixn {l : List DPod} {ip : Int} (h : podAt l ip = none) : ixOf l ip = -1 := by
  refine ix_none (fun j y hj hy he => ?_)
  unfold podAt at h
  rw [List.find?_eq_none] at h
  have := h y (List.mem_of_getElem? hy)
  simp [he] at this

set_option maxHeartbeats 2000000 in
theorem refAt_any (l : List DPod) (ip : Int) (pa qa : Option Addr) (pc qn qc : Nat) (w : World) (hp : rdPods w.heap.size w pa l) :
    Calls Tryz.prog 110 #[.agg #[.slice pa l.length pc, .slice qa qn qc], .int .i64 ip] w fun e w' => e = .returned (.int .i64 (ixOf l ip)) ∧ Below w.heap.size w w' := by
  have HP := hid hp
  have hlen := hp.1
  clear hp
  go_enter Tryz.func110, Tryz.ntmps110
  go_wp2
  go_loop [5] (fun i => ∃ k : Nat, k ≤ l.length ∧ i = .int .i64 k ∧ ∀ j y, j < k → l[j]? = some y → ¬ y.ip = ip) (fun i => l.length - (intOf i).toNat)
  case atStart => exact ⟨0, Nat.zero_le _, rfl, fun j y hj => absurd hj (Nat.not_lt_zero _)⟩
  case round =>
    obtain ⟨k, hk, rfl, hall⟩ := hrel
    have HA := hid hall
    clear hall
    by_cases hlt : k < l.length
    · obtain ⟨x, hxk⟩ : ∃ x, l[k]? = some x := ⟨l[k], by simp [hlt]⟩
      have HX := hid hxk
      clear hxk
      obtain ⟨b, off, rfl, hb, c0, c1, c2, c3⟩ := HP.out.2 k x HX.out
      cases hx : (x.ip == ip)
      · go_wp2
        go_round
        case rel =>
          refine ⟨k + 1, by omega, by go_num, fun j y hj hy => ?_⟩
          rcases Nat.lt_succ_iff_lt_or_eq.1 hj with h | h
          · exact HA.out j y h hy
          · subst h
            rw [HX.out] at hy
            cases hy
            simpa using hx
        case measure => simp [intOf]; omega
      · have HF := hid (ix_at HX.out HA.out (by simpa using hx))
        go_wp2
        go_ret
        exact ⟨by rw [HF.out]; rfl, (by repeat (first | exact Below.refl _ _ | assumption | apply Ext.alloc | apply Ext.drewN | apply Ext.drew | refine Ext.trans ?_ (by assumption)))⟩
    · have HF := hid (ix_none (l := l) (ip := ip) (fun j y hj => HA.out j y (by omega)))
      go_wp2
      go_ret
      exact ⟨by rw [HF.out]; rfl, (by repeat (first | exact Below.refl _ _ | assumption | apply Ext.alloc | apply Ext.drewN | apply Ext.drew | refine Ext.trans ?_ (by assumption)))⟩

set_option maxRecDepth 100000 in
set_option maxHeartbeats 4000000 in
theorem refHasBlocks (x : DPeer) (ea : Option Addr) (ec : Nat) (ip space : Int) (pa qa : Option Addr) (pn pc qn qc : Nat) (w : World) (hr : rdBlks w.heap.size w ea x.exc)
    (hk : x.kind = 2) (hx : blkOk ⟨x.base, x.bits⟩ = true) (he : x.exc.all blkOk = true) (h0 : 0 ≤ ip) (h1 : ip ≤ 4294967295) :
    Calls Tryz.prog 167 #[.agg #[.slice pa pn pc, .slice qa qn qc], .int .i64 space, .agg #[.int .i64 x.kind, .int .i64 x.need, .int .i64 x.ban, .int .i64 x.spaces, .int .i64 x.base, .int .i64 x.bits, .slice ea x.exc.length ec], .int .i64 ip] w
      fun e w' => e = .returned (.bool (blkHas ip ⟨x.base, x.bits⟩ && !(x.exc.any (blkHas ip)))) ∧ Below w.heap.size w w' := by
  have HR := hid hr
  have HX := hid hx
  have HE := hid he
  have hlen := hr.1
  have hk2 : (x.kind == 2) = true := by simp [hk]
  clear hr hx he hk
  go_enter Tryz.func167, Tryz.ntmps167
  go_wp2_with (go_at_call 144; refine (refHas_any ⟨x.base, x.bits⟩ ip _ HX.out h0 h1).mono ?_; rintro e w1 ⟨rfl, hb1⟩; obtain ⟨hc1, hf1⟩ := bcell hb1; have hz1 := hb_lt hb1)
  have y6 : w1.cell? ⟨w.heap.size + 1, 6, none⟩ = some (.slice ea x.exc.length ec) := cell_to (by simp [go_sem]) hb1
  have hB : Below w.heap.size w w1 := (by repeat (first | exact Below.refl _ _ | assumption | apply Ext.alloc | apply Ext.drewN | apply Ext.drew | refine Ext.trans ?_ (by assumption)))
  clear hc1 hf1 hz1
  go_loopw [9, 10] (fun inn i wr => ∃ t : Nat, t ≤ x.exc.length ∧ i = .int .i64 t ∧ inn = .bool (blkHas ip ⟨x.base, x.bits⟩ && !((x.exc.take t).any (blkHas ip))) ∧ Below w1.heap.size w1 wr) (fun _ i _ => x.exc.length - (intOf i).toNat)
  case atStart => exact ⟨0, Nat.zero_le _, rfl, by simp, Below.refl _ _⟩
  case round =>
    obtain ⟨t, ht, rfl, rfl, hbw⟩ := hrel
    have z6 := cell_to y6 hbw
    have hC : Below w.heap.size w wr := Ext.trans hB hbw
    by_cases hlt : t < x.exc.length
    · obtain ⟨y, hyk⟩ : ∃ y, x.exc[t]? = some y := ⟨x.exc[t], by simp [hlt]⟩
      have HY := hid hyk
      have HT := hid (take_any' (f := blkHas ip) hyk)
      have HO := hid (List.all_eq_true.1 HE.out y (List.mem_of_getElem? hyk))
      clear hyk
      obtain ⟨b, off, rfl, hb, c0, c1⟩ := HR.out.2 t y HY.out
      have d0 := cell_to c0 hC
      have d1 := cell_to c1 hC
      clear c0 c1
      generalize hg : (blkHas ip ⟨x.base, x.bits⟩ && !((x.exc.take t).any (blkHas ip))) = g
      have HH := hid (show (blkHas ip ⟨x.base, x.bits⟩ && !((x.exc.take (t + 1)).any (blkHas ip))) = (g && !(blkHas ip y)) by rw [HT.out, Bool.not_or, ← Bool.and_assoc, hg])
      clear hg
      cases g
      · go_wp2_with (go_at_call 144; refine (refHas_any y ip _ HO.out h0 h1).mono ?_; rintro e w2 ⟨rfl, hb2⟩; obtain ⟨hc2, hf2⟩ := bcell hb2; have hz2 := hb_lt hb2)
        exact ⟨⟨t + 1, by omega, by go_num, by rw [HH.out]; rfl, Ext.trans hbw hb2⟩, by simp [intOf]; omega⟩
      · go_wp2_with (go_at_call 144; refine (refHas_any y ip _ HO.out h0 h1).mono ?_; rintro e w2 ⟨rfl, hb2⟩; obtain ⟨hc2, hf2⟩ := bcell hb2; have hz2 := hb_lt hb2)
        exact ⟨⟨t + 1, by omega, by go_num, by rw [HH.out]; simp, Ext.trans hbw hb2⟩, by simp [intOf]; omega⟩
    · have e : x.exc.take t = x.exc := List.take_of_length_le (by omega)
      rw [e]
      clear e
      go_wp2
      go_ret
      exact ⟨rfl, hC⟩
end Go.Proofs.YtmkjlhplgcifiaaGreat
namespace Go.Proofs.YtmkjlhplgcifiaaGreat
open Go.ChangeShapes Go.WideShapes Go.ChangeAt Go.RowKit
attribute [local simp] World.cell?_grow
attribute [local go_sem] World.cell?_grow
attribute [local simp] World.cell?_alloc_there
attribute [local go_sem] World.cell?_alloc_there
attribute [local go_sem] eqg_blk std_blk eqg_pod std_pod eqg_sel std_sel eqg_prt std_prt
attribute [local go_sem ↓] eql_blk eql_sel neq_sel eql_prt eql_pod
attribute [local go_sem ↓] met_in1 met_in2 met_re1 met_re2
attribute [local go_sem ↓] met_has1 met_has2
set_option linter.unusedVariables false
set_option linter.unusedSimpArgs false

/-- a number of 64 bits -/
def i64 (n : Int) : Prop := -9223372036854775808 ≤ n ∧ n ≤ 9223372036854775807
/-- which of n things the raw number c speaks of -/
def pk (c n : Int) : Int := (if c < 0 then -(c + 1) else c) % n
theorem pk_in {c n : Int} (hn : 0 < n) : 0 ≤ pk c n ∧ pk c n < n := ⟨Int.emod_nonneg _ (by omega), Int.emod_lt_of_pos _ hn⟩
theorem pick_any (c n : Int) (w : World) (hc : i64 c) (hn : 0 < n) (hn1 : n ≤ 4294967296) :
    Calls Tryz.prog 22 #[.int .i64 c, .int .i64 n] w fun e w' => e = .returned (.int .i64 (pk c n)) ∧ w' = w := by
  obtain ⟨h0, h1⟩ := hc
  have hne : ¬ n = 0 := by omega
  by_cases h : c < 0
  · have HP := hid (show pk c n = (-(c + 1)) % n by rw [pk, if_pos h])
    have h2 : 0 ≤ -(c + 1) := by omega
    go_enter Tryz.func22, Tryz.ntmps22
    go_wp2
    go_ret
    refine ⟨?_, rfl⟩
    show Ending.returned (.int .i64 (-((c + 1).tmod n))) = _
    rw [HP.out, ← Int.neg_tmod, Int.tmod_eq_emod_of_nonneg h2]
  · have HP := hid (show pk c n = c % n by rw [pk, if_neg h])
    have h2 : 0 ≤ c := by omega
    go_enter Tryz.func22, Tryz.ntmps22
    go_wp2
    go_ret
    refine ⟨?_, rfl⟩
    rw [HP.out]; rfl
theorem mkSel_any (need ban : Int) (w : World) (h1 : i64 need) (h2 : i64 ban) :
    Calls Tryz.prog 41 #[.agg #[.int .i64 need, .int .i64 ban]] w fun e w' => e = .returned (.agg #[.int .i64 (pk need 256), .int .i64 (pk ban 256)]) ∧ Below w.heap.size w w' := by
  go_enter Tryz.func41, Tryz.ntmps41
  go_wp2
  refine wp_region_grow_tail 6 (by kernel_rfl) (by kernel_rfl) (by kernel_rfl) ?_
  simp only [takes_6, drops_6]
  repeat (go_big_quiet_step (first
    | (go_at_call 22; exact Calls.grow_of_same (pick_any _ _ _ (by assumption) (by decide) (by decide)))))
  refine wpQuiet_nil ?_
  intro w1 hb1
  obtain ⟨hc1, hf1⟩ := bcell hb1
  have hz1 := hb_lt hb1
  have z0 : w1.cell? ⟨w.heap.size + 1, 0, none⟩ = some (.int .i64 0) := cell_to (by simp [go_sem]) hb1
  have z1 : w1.cell? ⟨w.heap.size + 1, 1, none⟩ = some (.int .i64 0) := cell_to (by simp [go_sem]) hb1
  have hB : Below w.heap.size w w1 := (by repeat (first | exact Below.refl _ _ | assumption | apply Ext.alloc | apply Ext.drewN | apply Ext.drew | refine Ext.trans ?_ (by assumption)))
  clear hc1
  go_wp2
  exact bodyPost_ret (v := .agg #[.int .i64 (pk need 256), .int .i64 (pk ban 256)]) (by simp [results, Tryz.results41, go_sem, hz1, z0, z1]) rfl ⟨rfl, (hB.setCell (by simp) _).setCell (by simp) _⟩
/-- a right block of a raw one -/
def mkBlk (b : DBlk) : DBlk := ⟨pk b.base 4294967296 - pk b.base 4294967296 % pw (pk b.bits 33), pk b.bits 33⟩
theorem mkBlk_ok (b : DBlk) : blkOk (mkBlk b) = true := by
  have h1 := pk_in (c := b.bits) (n := 33) (by decide)
  have h2 := pk_in (c := b.base) (n := 4294967296) (by decide)
  have hp := pw_pos (pk b.bits 33)
  have h3 := Int.emod_nonneg (pk b.base 4294967296) (show pw (pk b.bits 33) ≠ 0 by omega)
  have h4 := Int.emod_add_mul_ediv (pk b.base 4294967296) (pw (pk b.bits 33))
  refine blkOk_true.2 ⟨h1.1, by show pk b.bits 33 ≤ 32; omega, ?_, ?_, ?_⟩
  · show 0 ≤ pk b.base 4294967296 - pk b.base 4294967296 % pw (pk b.bits 33)
    have h5 : 0 ≤ pw (pk b.bits 33) * (pk b.base 4294967296 / pw (pk b.bits 33)) := Int.mul_nonneg (by omega) (Int.ediv_nonneg h2.1 (by omega))
    omega
  · show pk b.base 4294967296 - pk b.base 4294967296 % pw (pk b.bits 33) ≤ 4294967295
    omega
  · show (pk b.base 4294967296 - pk b.base 4294967296 % pw (pk b.bits 33)) % pw (pk b.bits 33) = 0
    rw [show pk b.base 4294967296 - pk b.base 4294967296 % pw (pk b.bits 33) = pw (pk b.bits 33) * (pk b.base 4294967296 / pw (pk b.bits 33)) by omega]
    exact Int.mul_emod_right _ _
theorem mkBlk_any (b : DBlk) (w : World) (h1 : i64 b.base) (h2 : i64 b.bits) :
    Calls Tryz.prog 42 #[.agg #[.int .i64 b.base, .int .i64 b.bits]] w fun e w' => e = .returned (.agg #[.int .i64 (mkBlk b).base, .int .i64 (mkBlk b).bits]) ∧ Below w.heap.size w w' := by
  have p1 := pk_in (c := b.bits) (n := 33) (by decide)
  have p2 := pk_in (c := b.base) (n := 4294967296) (by decide)
  have HR := hid (show (mkBlk b).base = pk b.base 4294967296 - pk b.base 4294967296 % pw (pk b.bits 33) from rfl)
  have HS := hid (show (mkBlk b).bits = pk b.bits 33 from rfl)
  rw [HR.out, HS.out]
  have HP1 := hid (pick_any b.bits 33)
  have HP2 := hid (pick_any b.base 4294967296)
  generalize pk b.bits 33 = bits at *
  generalize pk b.base 4294967296 = ip at *
  obtain ⟨q0, q1⟩ := p1
  obtain ⟨q2, q3⟩ := p2
  go_enter Tryz.func42, Tryz.ntmps42
  go_wp2_with (go_at_call 22; refine (HP1.out _ h2 (by decide) (by decide)).mono ?_; rintro e w' ⟨rfl, rfl⟩)
  go_loop [4, 5] (fun n i => ∃ k m : Int, bits ≤ k ∧ k ≤ 32 ∧ i = .int .i64 k ∧ n = .int .i64 m ∧ m * pw k = pw bits) (fun _ i => (32 - intOf i).toNat)
  case atStart => exact ⟨bits, 1, by omega, by omega, rfl, rfl, by omega⟩
  case round =>
    obtain ⟨k, m, hk1, hk2, rfl, rfl, hm⟩ := hrel
    have hpk := pw_le k (by omega)
    have hpb := pw_le bits (by omega)
    have hmm := fac_le m (pw k) (pw bits) hpk.1 hpb.1 hm
    have HM := hid hm
    clear hm
    by_cases hlt : k < 32
    · have hps := pw_succ k (by omega) (by omega)
      have hm2 := fac_two m (pw (k + 1)) (pw bits) (pw_pos _) (by rw [← HM.out, hps]) hpb.2
      have HP := hid hps
      clear hps
      go_wp2
      go_round
      case rel => exact ⟨k + 1, 2 * m, by omega, by omega, by go_num, by go_num, by rw [← HM.out, HP.out, Int.mul_comm 2 m, Int.mul_assoc]⟩
      case measure => simp [intOf]; omega
    · have e : k = 32 := by omega
      subst e
      have e2 : pw 32 = 1 := rfl
      have hm := HM.out
      rw [e2, Int.mul_one] at hm
      subst hm
      have hm0 : 0 < pw bits := by omega
      have hne : ¬ pw bits = 0 := by omega
      have r0 := Int.emod_nonneg ip (show pw bits ≠ 0 by omega)
      have r1 := Int.emod_lt_of_pos ip hm0
      generalize hgm : pw bits = m at *
      go_wp2_with (go_at_call 22; refine (HP2.out _ h1 (by decide) (by decide)).mono ?_; rintro e w' ⟨rfl, rfl⟩)
      exact bodyPost_ret (v := .agg #[.int .i64 (ip - ip % m), .int .i64 bits]) (by simp [results, Tryz.results42, go_sem]) rfl ⟨by rw [hgm], (by repeat (first | exact Below.refl _ _ | assumption | apply Ext.alloc | apply Ext.drewN | apply Ext.drew | refine Ext.trans ?_ (by assumption)))⟩
end Go.Proofs.YtmkjlhplgcifiaaGreat
