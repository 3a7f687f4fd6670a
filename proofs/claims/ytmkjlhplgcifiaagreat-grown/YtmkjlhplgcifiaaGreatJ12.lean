/-
  Rules and policies: what fits, what applies, what is let go.
-/
import Derived.Test.YtmkjlhplgcifiaaGreatJ11
import Derived.Test.YtmkjlhplgcifiaaGreatJ08
namespace Go.Proofs.YtmkjlhplgcifiaaGreat
open Go.ChangeShapes Go.WideShapes Go.ChangeAt Go.RowKit
attribute [local simp] World.cell?_grow
attribute [local go_sem] World.cell?_grow
attribute [local simp] World.cell?_alloc_there
attribute [local go_sem] World.cell?_alloc_there
attribute [local go_sem] eqg_blk std_blk eqg_pod std_pod eqg_sel std_sel eqg_prt std_prt
attribute [local go_sem ↓] eql_blk eql_sel neq_sel eql_prt eql_pod
attribute [local go_sem ↓] met_in1 met_in2 met_re1 met_re2
attribute [local go_sem ↓] met_has1 met_has2
set_option linter.unusedVariables false
set_option linter.unusedSimpArgs false
theorem ways_fin2 : ∀ a : Fin 4, ∀ b : Fin 2, (bits .and .i64 (a.val : Int) ((b.val : Int) + 1) != 0) = hasWay a.val (b.val + 1) := by decide +kernel
theorem ways_eq2 (ways way : Int) (h0 : 1 ≤ ways) (h1 : ways ≤ 3) (hw : way = 1 ∨ way = 2) : (bits .and .i64 ways way != 0) = hasWay ways way := by
  obtain ⟨a, rfl⟩ := Int.eq_ofNat_of_zero_le (show 0 ≤ ways by omega)
  rcases hw with rfl | rfl
  · exact ways_fin2 ⟨a, by omega⟩ ⟨0, by omega⟩
  · exact ways_fin2 ⟨a, by omega⟩ ⟨1, by omega⟩
theorem polOk_space {p : DPol} (h : polOk p = true) : btw p.space 0 3 = true := by simp only [polOk, Bool.and_eq_true] at h; exact h.1.1.1.1
theorem polOk_sel {p : DPol} (h : polOk p = true) : selOk p.need p.ban = true := by simp only [polOk, Bool.and_eq_true] at h; exact h.1.1.1.2
theorem polOk_ways {p : DPol} (h : polOk p = true) : btw p.ways 1 3 = true := by simp only [polOk, Bool.and_eq_true] at h; exact h.1.1.2
theorem polOk_outs {p : DPol} (h : polOk p = true) : ∀ r ∈ p.outs, rulOk r = true := by simp only [polOk, rulesOk, few, Bool.and_eq_true, List.all_eq_true] at h; exact h.1.2.1.2
theorem polOk_ins {p : DPol} (h : polOk p = true) : ∀ r ∈ p.ins, rulOk r = true := by simp only [polOk, rulesOk, few, Bool.and_eq_true, List.all_eq_true] at h; exact h.2.1.2
theorem pktOk_src {k : DPkt} (h : pktOk k = true) : 0 ≤ k.src ∧ k.src ≤ 4294967295 := by simp only [pktOk, btw, Bool.and_eq_true, decide_eq_true_eq] at h; exact h.1.1.1
theorem pktOk_dst {k : DPkt} (h : pktOk k = true) : 0 ≤ k.dst ∧ k.dst ≤ 4294967295 := by simp only [pktOk, btw, Bool.and_eq_true, decide_eq_true_eq] at h; exact h.1.1.2
theorem rules_out (p : DPol) (oa ia : Option Addr) (oc ic : Nat) (w : World) :
    Calls Tryz.prog 127 #[.agg #[.int .i64 p.space, .int .i64 p.need, .int .i64 p.ban, .int .i64 p.ways, .slice oa p.outs.length oc, .slice ia p.ins.length ic], .int .i64 1] w fun e w' => e = .returned (.slice oa p.outs.length oc) ∧ Below w.heap.size w w' := by
  go_enter Tryz.func127, Tryz.ntmps127
  go_wp2
  go_ret
  exact ⟨rfl, (by repeat (first | exact Below.refl _ _ | assumption | apply Ext.alloc | apply Ext.drewN | apply Ext.drew | refine Ext.trans ?_ (by assumption)))⟩
theorem applies_out (q : DPol) (oa ia : Option Addr) (on inn oc ic : Nat) (p : DPod) (w : World) (hq : polOk q = true) (hp : podOk p = true) :
    Calls Tryz.prog 124 #[.agg #[.int .i64 q.space, .int .i64 q.need, .int .i64 q.ban, .int .i64 q.ways, .slice oa on oc, .slice ia inn ic], .int .i64 1, .agg #[.int .i64 p.host, .int .i64 p.ip, .int .i64 p.space, .int .i64 p.labels]] w fun e w' => e = .returned (.bool (applies 1 p q)) ∧ Below w.heap.size w w' := by
  obtain ⟨⟨n0, n1⟩, b0, b1⟩ := selOk_true.1 (polOk_sel hq)
  obtain ⟨_, _, _, l0, l1⟩ := podOk_true.1 hp
  have hw := btw_true.1 (polOk_ways hq)
  have HW := hid (ways_eq2 q.ways 1 hw.1 hw.2 (by omega))
  clear hq hp
  cases hq1 : (bits .and .i64 q.ways 1 != 0)
  · have HF := hid (show applies 1 p q = false by rw [applies, ← HW.out, hq1]; rfl)
    go_enter Tryz.func124, Tryz.ntmps124
    go_wp2
    go_ret
    exact ⟨ret_bool (by rw [HF.out]), (by repeat (first | exact Below.refl _ _ | assumption | apply Ext.alloc | apply Ext.drewN | apply Ext.drew | refine Ext.trans ?_ (by assumption)))⟩
  cases hq2 : (q.space == p.space)
  · have HF := hid (show applies 1 p q = false by rw [applies, ← HW.out, hq1, ← ibeq, hq2]; rfl)
    go_enter Tryz.func124, Tryz.ntmps124
    go_wp2
    go_ret
    exact ⟨ret_bool (by rw [HF.out]), (by repeat (first | exact Below.refl _ _ | assumption | apply Ext.alloc | apply Ext.drewN | apply Ext.drew | refine Ext.trans ?_ (by assumption)))⟩
  · have HF := hid (show applies 1 p q = sels q.need q.ban p.labels by rw [applies, ← HW.out, hq1, ← ibeq, hq2]; rfl)
    go_enter Tryz.func124, Tryz.ntmps124
    go_wp2_with (go_at_call 154; refine (selects_any _ _ _ _ _ _ _ n0 n1 b0 b1 l0 l1).mono ?_; rintro e w1 ⟨rfl, hb1⟩; obtain ⟨hc1, hf1⟩ := bcell hb1; have hz1 := hb_lt hb1)
    go_ret
    exact ⟨ret_bool (by rw [HF.out]), (by repeat (first | exact Below.refl _ _ | assumption | apply Ext.alloc | apply Ext.drewN | apply Ext.drew | refine Ext.trans ?_ (by assumption)))⟩
set_option maxHeartbeats 1000000 in
theorem letsGo_out (q : DPol) (oa ia : Option Addr) (oc ic : Nat) (sa : Option Addr) (pods : List DPod) (sc : Nat) (k : DPkt) (w : World)
    (hr : rdRules w.heap.size w oa q.outs) (hd : rdPods w.heap.size w sa pods) (ho : podsOk pods) (hq : polOk q = true) (hk : pktOk k = true) :
    Calls Tryz.prog 97 #[.agg #[.int .i64 q.space, .int .i64 q.need, .int .i64 q.ban, .int .i64 q.ways, .slice oa q.outs.length oc, .slice ia q.ins.length ic], .int .i64 1, .slice sa pods.length sc, .agg #[.int .i64 k.src, .int .i64 k.dst, .int .i64 k.proto, .int .i64 k.port]] w
      fun e w' => e = .returned (.bool (letsGo pods 1 k k.dst q)) ∧ Below w.heap.size w w' := by
  have HR := hid hr
  have HD := hid hd
  have HO := hid ho
  have HQ := hid (polOk_outs hq)
  have h0 := (btw_true.1 (polOk_space hq)).1
  have h1 := (btw_true.1 (polOk_space hq)).2
  have i0 := (pktOk_dst hk).1
  have i1 := (pktOk_dst hk).2
  have hmf := mkFunc
  clear hr hd ho hq hk
  go_enter Tryz.func97, Tryz.ntmps97
  go_wp2_with (first
    | (go_at_call 92; refine (ends_out k _).mono ?_; rintro e w1 ⟨rfl, hb1⟩; obtain ⟨hc1, hf1⟩ := bcell hb1; have hz1 := hb_lt hb1; have p0 : ∀ o, (w1.alloc o).cell? ⟨w.heap.size, 0, none⟩ = some (.int .i64 q.space) := fun o => cell_past (cell_to (by simp [go_sem]) hb1); have pp0 : ∀ o o2, ((w1.alloc o).alloc o2).cell? ⟨w.heap.size, 0, none⟩ = some (.int .i64 q.space) := fun o o2 => cell_past (cell_past (cell_to (by simp [go_sem]) hb1)); have pp1 : ∀ o o2, ((w1.alloc o).alloc o2).cell? ⟨w.heap.size, 1, none⟩ = some (.int .i64 q.need) := fun o o2 => cell_past (cell_past (cell_to (by simp [go_sem]) hb1)); have pp2 : ∀ o o2, ((w1.alloc o).alloc o2).cell? ⟨w.heap.size, 2, none⟩ = some (.int .i64 q.ban) := fun o o2 => cell_past (cell_past (cell_to (by simp [go_sem]) hb1)); have pp3 : ∀ o o2, ((w1.alloc o).alloc o2).cell? ⟨w.heap.size, 3, none⟩ = some (.int .i64 q.ways) := fun o o2 => cell_past (cell_past (cell_to (by simp [go_sem]) hb1)); have pp4 : ∀ o o2, ((w1.alloc o).alloc o2).cell? ⟨w.heap.size, 4, none⟩ = some (.slice oa q.outs.length oc) := fun o o2 => cell_past (cell_past (cell_to (by simp [go_sem]) hb1)); have pp5 : ∀ o o2, ((w1.alloc o).alloc o2).cell? ⟨w.heap.size, 5, none⟩ = some (.slice ia q.ins.length ic) := fun o o2 => cell_past (cell_past (cell_to (by simp [go_sem]) hb1)))
    | (go_at_call 127; refine (rules_out q _ _ _ _ _).mono ?_; rintro e w2 ⟨rfl, hb2⟩; obtain ⟨hc2, hf2⟩ := bcell hb2; have hz2 := hb_lt hb2)
    | (go_at_call 126; refine (anyRule (ruleFits pods q.space k k.dst) _ _ _ _ _ _ _ (rdRules.to HR.out (by repeat (first | exact Below.refl _ _ | assumption | apply Ext.alloc | apply Ext.drewN | apply Ext.drew | refine Ext.trans ?_ (by assumption)))) (fun r pa qa pc qc w3 hx hz hp hq => goClo r pa qa pc qc q.space _ pods sc k.dst k _ _ _ w3 hp hq (rdPods.to (rdPods.to HD.out (by repeat (first | exact Below.refl _ _ | assumption | apply Ext.alloc | apply Ext.drewN | apply Ext.drew | refine Ext.trans ?_ (by assumption)))) hz) HO.out (HQ.out r hx) i0 i1 h0 h1 (cell_to (cell_to (by simp [go_sem]) hb2) hz) (cell_to (cell_to (by simp [go_sem]) hb2) hz) (cell_to (cell_to (by simp [go_sem]) hb2) hz) (cell_to (cell_to (cell_past (cell_past (cell_to (by simp [go_sem]) hb1))) hb2) hz) (cell_to (cell_to (cell_past (cell_past (cell_to (by simp [go_sem]) hb1))) hb2) hz) (cell_to (cell_to (cell_past (cell_past (cell_to (by simp [go_sem]) hb1))) hb2) hz) (cell_to (cell_to (cell_past (cell_past (cell_to (by simp [go_sem]) hb1))) hb2) hz))).mono ?_; rintro e w3 ⟨rfl, hb3⟩; obtain ⟨hc3, hf3⟩ := bcell hb3; have hz3 := hb_lt hb3))
  go_ret
  exact ⟨rfl, (by repeat (first | exact Below.refl _ _ | assumption | apply Ext.alloc | apply Ext.drewN | apply Ext.drew | refine Ext.trans ?_ (by assumption)))⟩
theorem rules_in (p : DPol) (oa ia : Option Addr) (oc ic : Nat) (w : World) :
    Calls Tryz.prog 127 #[.agg #[.int .i64 p.space, .int .i64 p.need, .int .i64 p.ban, .int .i64 p.ways, .slice oa p.outs.length oc, .slice ia p.ins.length ic], .int .i64 2] w fun e w' => e = .returned (.slice ia p.ins.length ic) ∧ Below w.heap.size w w' := by
  go_enter Tryz.func127, Tryz.ntmps127
  go_wp2
  go_ret
  exact ⟨rfl, (by repeat (first | exact Below.refl _ _ | assumption | apply Ext.alloc | apply Ext.drewN | apply Ext.drew | refine Ext.trans ?_ (by assumption)))⟩
theorem applies_in (q : DPol) (oa ia : Option Addr) (on inn oc ic : Nat) (p : DPod) (w : World) (hq : polOk q = true) (hp : podOk p = true) :
    Calls Tryz.prog 124 #[.agg #[.int .i64 q.space, .int .i64 q.need, .int .i64 q.ban, .int .i64 q.ways, .slice oa on oc, .slice ia inn ic], .int .i64 2, .agg #[.int .i64 p.host, .int .i64 p.ip, .int .i64 p.space, .int .i64 p.labels]] w fun e w' => e = .returned (.bool (applies 2 p q)) ∧ Below w.heap.size w w' := by
  obtain ⟨⟨n0, n1⟩, b0, b1⟩ := selOk_true.1 (polOk_sel hq)
  obtain ⟨_, _, _, l0, l1⟩ := podOk_true.1 hp
  have hw := btw_true.1 (polOk_ways hq)
  have HW := hid (ways_eq2 q.ways 2 hw.1 hw.2 (by omega))
  clear hq hp
  cases hq1 : (bits .and .i64 q.ways 2 != 0)
  · have HF := hid (show applies 2 p q = false by rw [applies, ← HW.out, hq1]; rfl)
    go_enter Tryz.func124, Tryz.ntmps124
    go_wp2
    go_ret
    exact ⟨ret_bool (by rw [HF.out]), (by repeat (first | exact Below.refl _ _ | assumption | apply Ext.alloc | apply Ext.drewN | apply Ext.drew | refine Ext.trans ?_ (by assumption)))⟩
  cases hq2 : (q.space == p.space)
  · have HF := hid (show applies 2 p q = false by rw [applies, ← HW.out, hq1, ← ibeq, hq2]; rfl)
    go_enter Tryz.func124, Tryz.ntmps124
    go_wp2
    go_ret
    exact ⟨ret_bool (by rw [HF.out]), (by repeat (first | exact Below.refl _ _ | assumption | apply Ext.alloc | apply Ext.drewN | apply Ext.drew | refine Ext.trans ?_ (by assumption)))⟩
  · have HF := hid (show applies 2 p q = sels q.need q.ban p.labels by rw [applies, ← HW.out, hq1, ← ibeq, hq2]; rfl)
    go_enter Tryz.func124, Tryz.ntmps124
    go_wp2_with (go_at_call 154; refine (selects_any _ _ _ _ _ _ _ n0 n1 b0 b1 l0 l1).mono ?_; rintro e w1 ⟨rfl, hb1⟩; obtain ⟨hc1, hf1⟩ := bcell hb1; have hz1 := hb_lt hb1)
    go_ret
    exact ⟨ret_bool (by rw [HF.out]), (by repeat (first | exact Below.refl _ _ | assumption | apply Ext.alloc | apply Ext.drewN | apply Ext.drew | refine Ext.trans ?_ (by assumption)))⟩
set_option maxHeartbeats 1000000 in
theorem letsGo_in (q : DPol) (oa ia : Option Addr) (oc ic : Nat) (sa : Option Addr) (pods : List DPod) (sc : Nat) (k : DPkt) (w : World)
    (hr : rdRules w.heap.size w ia q.ins) (hd : rdPods w.heap.size w sa pods) (ho : podsOk pods) (hq : polOk q = true) (hk : pktOk k = true) :
    Calls Tryz.prog 97 #[.agg #[.int .i64 q.space, .int .i64 q.need, .int .i64 q.ban, .int .i64 q.ways, .slice oa q.outs.length oc, .slice ia q.ins.length ic], .int .i64 2, .slice sa pods.length sc, .agg #[.int .i64 k.src, .int .i64 k.dst, .int .i64 k.proto, .int .i64 k.port]] w
      fun e w' => e = .returned (.bool (letsGo pods 2 k k.src q)) ∧ Below w.heap.size w w' := by
  have HR := hid hr
  have HD := hid hd
  have HO := hid ho
  have HQ := hid (polOk_ins hq)
  have h0 := (btw_true.1 (polOk_space hq)).1
  have h1 := (btw_true.1 (polOk_space hq)).2
  have i0 := (pktOk_src hk).1
  have i1 := (pktOk_src hk).2
  have hmf := mkFunc
  clear hr hd ho hq hk
  go_enter Tryz.func97, Tryz.ntmps97
  go_wp2_with (first
    | (go_at_call 92; refine (ends_in k _).mono ?_; rintro e w1 ⟨rfl, hb1⟩; obtain ⟨hc1, hf1⟩ := bcell hb1; have hz1 := hb_lt hb1; have p0 : ∀ o, (w1.alloc o).cell? ⟨w.heap.size, 0, none⟩ = some (.int .i64 q.space) := fun o => cell_past (cell_to (by simp [go_sem]) hb1); have pp0 : ∀ o o2, ((w1.alloc o).alloc o2).cell? ⟨w.heap.size, 0, none⟩ = some (.int .i64 q.space) := fun o o2 => cell_past (cell_past (cell_to (by simp [go_sem]) hb1)); have pp1 : ∀ o o2, ((w1.alloc o).alloc o2).cell? ⟨w.heap.size, 1, none⟩ = some (.int .i64 q.need) := fun o o2 => cell_past (cell_past (cell_to (by simp [go_sem]) hb1)); have pp2 : ∀ o o2, ((w1.alloc o).alloc o2).cell? ⟨w.heap.size, 2, none⟩ = some (.int .i64 q.ban) := fun o o2 => cell_past (cell_past (cell_to (by simp [go_sem]) hb1)); have pp3 : ∀ o o2, ((w1.alloc o).alloc o2).cell? ⟨w.heap.size, 3, none⟩ = some (.int .i64 q.ways) := fun o o2 => cell_past (cell_past (cell_to (by simp [go_sem]) hb1)); have pp4 : ∀ o o2, ((w1.alloc o).alloc o2).cell? ⟨w.heap.size, 4, none⟩ = some (.slice oa q.outs.length oc) := fun o o2 => cell_past (cell_past (cell_to (by simp [go_sem]) hb1)); have pp5 : ∀ o o2, ((w1.alloc o).alloc o2).cell? ⟨w.heap.size, 5, none⟩ = some (.slice ia q.ins.length ic) := fun o o2 => cell_past (cell_past (cell_to (by simp [go_sem]) hb1)))
    | (go_at_call 127; refine (rules_in q _ _ _ _ _).mono ?_; rintro e w2 ⟨rfl, hb2⟩; obtain ⟨hc2, hf2⟩ := bcell hb2; have hz2 := hb_lt hb2)
    | (go_at_call 126; refine (anyRule (ruleFits pods q.space k k.src) _ _ _ _ _ _ _ (rdRules.to HR.out (by repeat (first | exact Below.refl _ _ | assumption | apply Ext.alloc | apply Ext.drewN | apply Ext.drew | refine Ext.trans ?_ (by assumption)))) (fun r pa qa pc qc w3 hx hz hp hq => goClo r pa qa pc qc q.space _ pods sc k.src k _ _ _ w3 hp hq (rdPods.to (rdPods.to HD.out (by repeat (first | exact Below.refl _ _ | assumption | apply Ext.alloc | apply Ext.drewN | apply Ext.drew | refine Ext.trans ?_ (by assumption)))) hz) HO.out (HQ.out r hx) i0 i1 h0 h1 (cell_to (cell_to (by simp [go_sem]) hb2) hz) (cell_to (cell_to (by simp [go_sem]) hb2) hz) (cell_to (cell_to (by simp [go_sem]) hb2) hz) (cell_to (cell_to (cell_past (cell_past (cell_to (by simp [go_sem]) hb1))) hb2) hz) (cell_to (cell_to (cell_past (cell_past (cell_to (by simp [go_sem]) hb1))) hb2) hz) (cell_to (cell_to (cell_past (cell_past (cell_to (by simp [go_sem]) hb1))) hb2) hz) (cell_to (cell_to (cell_past (cell_past (cell_to (by simp [go_sem]) hb1))) hb2) hz))).mono ?_; rintro e w3 ⟨rfl, hb3⟩; obtain ⟨hc3, hf3⟩ := bcell hb3; have hz3 := hb_lt hb3))
  go_ret
  exact ⟨rfl, (by repeat (first | exact Below.refl _ _ | assumption | apply Ext.alloc | apply Ext.drewN | apply Ext.drew | refine Ext.trans ?_ (by assumption)))⟩
end Go.Proofs.YtmkjlhplgcifiaaGreat
