/-
  The document's answer: when a policy is right.
-/
import Derived.Test.YtmkjlhplgcifiaaGreatH06
import Derived.Test.YtmkjlhplgcifiaaGreatH04
namespace Go.Proofs.YtmkjlhplgcifiaaGreat
open Go.ChangeShapes Go.WideShapes Go.ChangeAt Go.RowKit
set_option linter.unusedVariables false
set_option linter.unusedSimpArgs false
attribute [local simp] World.cell?_grow World.cell?_alloc_there
attribute [local go_sem] World.cell?_grow World.cell?_alloc_there eqg_blk std_blk eqg_pod std_pod eqg_sel std_sel eqg_prt std_prt
attribute [local go_sem ↓] eql_blk eql_sel neq_sel eql_prt eql_pod met_in1 met_in2 met_re1 met_re2 met_has1 met_has2
set_option maxHeartbeats 4000000 in
theorem refPolicy_any (p : DPol) (oa ia : Option Addr) (oc ic : Nat) (w : World) (ho : rdRules w.heap.size w oa p.outs) (hi : rdRules w.heap.size w ia p.ins) :
    Calls Tryz.prog 107 #[.agg #[.int .i64 p.space, .int .i64 p.need, .int .i64 p.ban, .int .i64 p.ways, .slice oa p.outs.length oc, .slice ia p.ins.length ic]] w fun e w' => e = .returned (.bool (polOk p)) ∧ Below w.heap.size w w' := by
  have HO := hid ho
  have HI := hid hi
  clear ho hi
  cases hq1 : btw p.space 0 3
  · have HF := hid (show polOk p = false by rw [polOk, hq1]; rfl)
    go_enter Tryz.func107, Tryz.ntmps107
    go_wp2_with (first
      | (go_at_call 113; refine (between_any _ _ _ _).mono ?_; rintro e w' ⟨rfl, rfl⟩)
      | (go_at_call 137; refine (refSel_any _ _ _).mono ?_; rintro e w1 ⟨rfl, hb1⟩; obtain ⟨hc1, hf1⟩ := bcell hb1; have hz1 := hb_lt hb1; have ca0 : w1.cell? ⟨w.heap.size, 0, none⟩ = some (.int .i64 p.space) := cell_to (by simp [go_sem]) hb1; have ca1 : w1.cell? ⟨w.heap.size, 1, none⟩ = some (.int .i64 p.need) := cell_to (by simp [go_sem]) hb1; have ca2 : w1.cell? ⟨w.heap.size, 2, none⟩ = some (.int .i64 p.ban) := cell_to (by simp [go_sem]) hb1; have ca3 : w1.cell? ⟨w.heap.size, 3, none⟩ = some (.int .i64 p.ways) := cell_to (by simp [go_sem]) hb1; have ca4 : w1.cell? ⟨w.heap.size, 4, none⟩ = some (.slice oa p.outs.length oc) := cell_to (by simp [go_sem]) hb1; have ca5 : w1.cell? ⟨w.heap.size, 5, none⟩ = some (.slice ia p.ins.length ic) := cell_to (by simp [go_sem]) hb1))
    refine (refRules_any p.outs _ _ _ _ (rdRules.to HO.out bel)).mono ?_
    rintro e w2 ⟨rfl, hb2⟩; obtain ⟨hc2, hf2⟩ := bcell hb2; have hz2 := hb_lt hb2
    have cb0 := cell_to ca0 hb2
    have cb1 := cell_to ca1 hb2
    have cb2 := cell_to ca2 hb2
    have cb3 := cell_to ca3 hb2
    have cb4 := cell_to ca4 hb2
    have cb5 := cell_to ca5 hb2
    go_wp2_with fail
    refine (refRules_any p.ins _ _ _ _ (rdRules.to HI.out bel)).mono ?_
    rintro e w3 ⟨rfl, hb3⟩; obtain ⟨hc3, hf3⟩ := bcell hb3; have hz3 := hb_lt hb3
    go_wp2
    go_ret
    exact ⟨ret_bool (by rw [HF.out]), bel⟩
  cases hq2 : selOk p.need p.ban
  · have HF := hid (show polOk p = false by rw [polOk, hq1, hq2]; rfl)
    go_enter Tryz.func107, Tryz.ntmps107
    go_wp2_with (first
      | (go_at_call 113; refine (between_any _ _ _ _).mono ?_; rintro e w' ⟨rfl, rfl⟩)
      | (go_at_call 137; refine (refSel_any _ _ _).mono ?_; rintro e w1 ⟨rfl, hb1⟩; obtain ⟨hc1, hf1⟩ := bcell hb1; have hz1 := hb_lt hb1; have ca0 : w1.cell? ⟨w.heap.size, 0, none⟩ = some (.int .i64 p.space) := cell_to (by simp [go_sem]) hb1; have ca1 : w1.cell? ⟨w.heap.size, 1, none⟩ = some (.int .i64 p.need) := cell_to (by simp [go_sem]) hb1; have ca2 : w1.cell? ⟨w.heap.size, 2, none⟩ = some (.int .i64 p.ban) := cell_to (by simp [go_sem]) hb1; have ca3 : w1.cell? ⟨w.heap.size, 3, none⟩ = some (.int .i64 p.ways) := cell_to (by simp [go_sem]) hb1; have ca4 : w1.cell? ⟨w.heap.size, 4, none⟩ = some (.slice oa p.outs.length oc) := cell_to (by simp [go_sem]) hb1; have ca5 : w1.cell? ⟨w.heap.size, 5, none⟩ = some (.slice ia p.ins.length ic) := cell_to (by simp [go_sem]) hb1))
    refine (refRules_any p.outs _ _ _ _ (rdRules.to HO.out bel)).mono ?_
    rintro e w2 ⟨rfl, hb2⟩; obtain ⟨hc2, hf2⟩ := bcell hb2; have hz2 := hb_lt hb2
    have cb0 := cell_to ca0 hb2
    have cb1 := cell_to ca1 hb2
    have cb2 := cell_to ca2 hb2
    have cb3 := cell_to ca3 hb2
    have cb4 := cell_to ca4 hb2
    have cb5 := cell_to ca5 hb2
    go_wp2_with fail
    refine (refRules_any p.ins _ _ _ _ (rdRules.to HI.out bel)).mono ?_
    rintro e w3 ⟨rfl, hb3⟩; obtain ⟨hc3, hf3⟩ := bcell hb3; have hz3 := hb_lt hb3
    go_wp2
    go_ret
    exact ⟨ret_bool (by rw [HF.out]), bel⟩
  cases hq3 : btw p.ways 1 3
  · have HF := hid (show polOk p = false by rw [polOk, hq1, hq2, hq3]; rfl)
    go_enter Tryz.func107, Tryz.ntmps107
    go_wp2_with (first
      | (go_at_call 113; refine (between_any _ _ _ _).mono ?_; rintro e w' ⟨rfl, rfl⟩)
      | (go_at_call 137; refine (refSel_any _ _ _).mono ?_; rintro e w1 ⟨rfl, hb1⟩; obtain ⟨hc1, hf1⟩ := bcell hb1; have hz1 := hb_lt hb1; have ca0 : w1.cell? ⟨w.heap.size, 0, none⟩ = some (.int .i64 p.space) := cell_to (by simp [go_sem]) hb1; have ca1 : w1.cell? ⟨w.heap.size, 1, none⟩ = some (.int .i64 p.need) := cell_to (by simp [go_sem]) hb1; have ca2 : w1.cell? ⟨w.heap.size, 2, none⟩ = some (.int .i64 p.ban) := cell_to (by simp [go_sem]) hb1; have ca3 : w1.cell? ⟨w.heap.size, 3, none⟩ = some (.int .i64 p.ways) := cell_to (by simp [go_sem]) hb1; have ca4 : w1.cell? ⟨w.heap.size, 4, none⟩ = some (.slice oa p.outs.length oc) := cell_to (by simp [go_sem]) hb1; have ca5 : w1.cell? ⟨w.heap.size, 5, none⟩ = some (.slice ia p.ins.length ic) := cell_to (by simp [go_sem]) hb1))
    refine (refRules_any p.outs _ _ _ _ (rdRules.to HO.out bel)).mono ?_
    rintro e w2 ⟨rfl, hb2⟩; obtain ⟨hc2, hf2⟩ := bcell hb2; have hz2 := hb_lt hb2
    have cb0 := cell_to ca0 hb2
    have cb1 := cell_to ca1 hb2
    have cb2 := cell_to ca2 hb2
    have cb3 := cell_to ca3 hb2
    have cb4 := cell_to ca4 hb2
    have cb5 := cell_to ca5 hb2
    go_wp2_with fail
    refine (refRules_any p.ins _ _ _ _ (rdRules.to HI.out bel)).mono ?_
    rintro e w3 ⟨rfl, hb3⟩; obtain ⟨hc3, hf3⟩ := bcell hb3; have hz3 := hb_lt hb3
    go_wp2
    go_ret
    exact ⟨ret_bool (by rw [HF.out]), bel⟩
  have hw := btw_true.1 hq3
  have HE := hid (show polOk p = (rulesOk p.outs (p.ways % 2 == 1) && rulesOk p.ins (p.ways / 2 == 1)) by rw [polOk, hq1, hq2, hq3, ibeq, ibeq]; rfl)
  cases hq4 : rulesOk p.outs (p.ways % 2 == 1)
  · have HF := hid (show polOk p = false by rw [HE.out, hq4]; rfl)
    go_enter Tryz.func107, Tryz.ntmps107
    go_wp2_with (first
      | (go_at_call 113; refine (between_any _ _ _ _).mono ?_; rintro e w' ⟨rfl, rfl⟩)
      | (go_at_call 137; refine (refSel_any _ _ _).mono ?_; rintro e w1 ⟨rfl, hb1⟩; obtain ⟨hc1, hf1⟩ := bcell hb1; have hz1 := hb_lt hb1; have ca0 : w1.cell? ⟨w.heap.size, 0, none⟩ = some (.int .i64 p.space) := cell_to (by simp [go_sem]) hb1; have ca1 : w1.cell? ⟨w.heap.size, 1, none⟩ = some (.int .i64 p.need) := cell_to (by simp [go_sem]) hb1; have ca2 : w1.cell? ⟨w.heap.size, 2, none⟩ = some (.int .i64 p.ban) := cell_to (by simp [go_sem]) hb1; have ca3 : w1.cell? ⟨w.heap.size, 3, none⟩ = some (.int .i64 p.ways) := cell_to (by simp [go_sem]) hb1; have ca4 : w1.cell? ⟨w.heap.size, 4, none⟩ = some (.slice oa p.outs.length oc) := cell_to (by simp [go_sem]) hb1; have ca5 : w1.cell? ⟨w.heap.size, 5, none⟩ = some (.slice ia p.ins.length ic) := cell_to (by simp [go_sem]) hb1))
    refine (refRules_any p.outs _ _ _ _ (rdRules.to HO.out bel)).mono ?_
    rw [hq4]
    rintro e w2 ⟨rfl, hb2⟩; obtain ⟨hc2, hf2⟩ := bcell hb2; have hz2 := hb_lt hb2
    have cb0 := cell_to ca0 hb2
    have cb1 := cell_to ca1 hb2
    have cb2 := cell_to ca2 hb2
    have cb3 := cell_to ca3 hb2
    have cb4 := cell_to ca4 hb2
    have cb5 := cell_to ca5 hb2
    go_wp2_with fail
    refine (refRules_any p.ins _ _ _ _ (rdRules.to HI.out bel)).mono ?_
    rintro e w3 ⟨rfl, hb3⟩; obtain ⟨hc3, hf3⟩ := bcell hb3; have hz3 := hb_lt hb3
    go_wp2
    go_ret
    exact ⟨ret_bool (by rw [HF.out]), bel⟩
  have HF := hid (show polOk p = rulesOk p.ins (p.ways / 2 == 1) by rw [HE.out, hq4]; rfl)
  go_enter Tryz.func107, Tryz.ntmps107
  go_wp2_with (first
    | (go_at_call 113; refine (between_any _ _ _ _).mono ?_; rintro e w' ⟨rfl, rfl⟩)
    | (go_at_call 137; refine (refSel_any _ _ _).mono ?_; rintro e w1 ⟨rfl, hb1⟩; obtain ⟨hc1, hf1⟩ := bcell hb1; have hz1 := hb_lt hb1; have ca0 : w1.cell? ⟨w.heap.size, 0, none⟩ = some (.int .i64 p.space) := cell_to (by simp [go_sem]) hb1; have ca1 : w1.cell? ⟨w.heap.size, 1, none⟩ = some (.int .i64 p.need) := cell_to (by simp [go_sem]) hb1; have ca2 : w1.cell? ⟨w.heap.size, 2, none⟩ = some (.int .i64 p.ban) := cell_to (by simp [go_sem]) hb1; have ca3 : w1.cell? ⟨w.heap.size, 3, none⟩ = some (.int .i64 p.ways) := cell_to (by simp [go_sem]) hb1; have ca4 : w1.cell? ⟨w.heap.size, 4, none⟩ = some (.slice oa p.outs.length oc) := cell_to (by simp [go_sem]) hb1; have ca5 : w1.cell? ⟨w.heap.size, 5, none⟩ = some (.slice ia p.ins.length ic) := cell_to (by simp [go_sem]) hb1))
  refine (refRules_any p.outs _ _ _ _ (rdRules.to HO.out bel)).mono ?_
  rw [hq4]
  rintro e w2 ⟨rfl, hb2⟩; obtain ⟨hc2, hf2⟩ := bcell hb2; have hz2 := hb_lt hb2
  have cb0 := cell_to ca0 hb2
  have cb1 := cell_to ca1 hb2
  have cb2 := cell_to ca2 hb2
  have cb3 := cell_to ca3 hb2
  have cb4 := cell_to ca4 hb2
  have cb5 := cell_to ca5 hb2
  go_wp2_with fail
  refine (refRules_any p.ins _ _ _ _ (rdRules.to HI.out bel)).mono ?_
  rintro e w3 ⟨rfl, hb3⟩; obtain ⟨hc3, hf3⟩ := bcell hb3; have hz3 := hb_lt hb3
  go_wp2
  go_ret
  exact ⟨ret_bool (by rw [HF.out]), bel⟩
theorem ways_fin2 : ∀ a : Fin 4, ∀ b : Fin 2, (bits .and .i64 (a.val : Int) ((b.val : Int) + 1) != 0) = hasWay a.val (b.val + 1) := by decide +kernel
theorem ways_eq2 (ways way : Int) (h0 : 1 ≤ ways) (h1 : ways ≤ 3) (hw : way = 1 ∨ way = 2) : (bits .and .i64 ways way != 0) = hasWay ways way := by
  obtain ⟨a, rfl⟩ := Int.eq_ofNat_of_zero_le (show 0 ≤ ways by omega)
  rcases hw with rfl | rfl
  · exact ways_fin2 ⟨a, by omega⟩ ⟨0, by omega⟩
  · exact ways_fin2 ⟨a, by omega⟩ ⟨1, by omega⟩
theorem polOk_space {p : DPol} (h : polOk p = true) : btw p.space 0 3 = true := by simp only [polOk, Bool.and_eq_true] at h; exact h.1.1.1.1
theorem polOk_sel {p : DPol} (h : polOk p = true) : selOk p.need p.ban = true := by simp only [polOk, Bool.and_eq_true] at h; exact h.1.1.1.2
theorem polOk_ways {p : DPol} (h : polOk p = true) : btw p.ways 1 3 = true := by simp only [polOk, Bool.and_eq_true] at h; exact h.1.1.2
theorem polOk_outs {p : DPol} (h : polOk p = true) : ∀ r ∈ p.outs, rulOk r = true := by simp only [polOk, rulesOk, few, Bool.and_eq_true, List.all_eq_true] at h; exact h.1.2.1.2
theorem polOk_ins {p : DPol} (h : polOk p = true) : ∀ r ∈ p.ins, rulOk r = true := by simp only [polOk, rulesOk, few, Bool.and_eq_true, List.all_eq_true] at h; exact h.2.1.2
theorem pktOk_src {k : DPkt} (h : pktOk k = true) : 0 ≤ k.src ∧ k.src ≤ 4294967295 := by simp only [pktOk, btw, Bool.and_eq_true, decide_eq_true_eq] at h; exact h.1.1.1
theorem pktOk_dst {k : DPkt} (h : pktOk k = true) : 0 ≤ k.dst ∧ k.dst ≤ 4294967295 := by simp only [pktOk, btw, Bool.and_eq_true, decide_eq_true_eq] at h; exact h.1.1.2
theorem rules_out (p : DPol) (oa ia : Option Addr) (oc ic : Nat) (w : World) :
    Calls Tryz.prog 127 #[.agg #[.int .i64 p.space, .int .i64 p.need, .int .i64 p.ban, .int .i64 p.ways, .slice oa p.outs.length oc, .slice ia p.ins.length ic], .int .i64 1] w fun e w' => e = .returned (.slice oa p.outs.length oc) ∧ Below w.heap.size w w' := by
  go_enter Tryz.func127, Tryz.ntmps127
  go_wp2
  go_ret
  exact ⟨rfl, bel⟩
theorem applies_out (q : DPol) (oa ia : Option Addr) (on inn oc ic : Nat) (p : DPod) (w : World) (hq : polOk q = true) (hp : podOk p = true) :
    Calls Tryz.prog 124 #[.agg #[.int .i64 q.space, .int .i64 q.need, .int .i64 q.ban, .int .i64 q.ways, .slice oa on oc, .slice ia inn ic], .int .i64 1, .agg #[.int .i64 p.host, .int .i64 p.ip, .int .i64 p.space, .int .i64 p.labels]] w fun e w' => e = .returned (.bool (applies 1 p q)) ∧ Below w.heap.size w w' := by
  obtain ⟨⟨n0, n1⟩, b0, b1⟩ := selOk_true.1 (polOk_sel hq)
  obtain ⟨_, _, _, l0, l1⟩ := podOk_true.1 hp
  have hw := btw_true.1 (polOk_ways hq)
  have HW := hid (ways_eq2 q.ways 1 hw.1 hw.2 (by omega))
  clear hq hp
  cases hq1 : (bits .and .i64 q.ways 1 != 0)
  · have HF := hid (show applies 1 p q = false by rw [applies, ← HW.out, hq1]; rfl)
    go_enter Tryz.func124, Tryz.ntmps124
    go_wp2
    go_ret
    exact ⟨ret_bool (by rw [HF.out]), bel⟩
  cases hq2 : (q.space == p.space)
  · have HF := hid (show applies 1 p q = false by rw [applies, ← HW.out, hq1, ← ibeq, hq2]; rfl)
    go_enter Tryz.func124, Tryz.ntmps124
    go_wp2
    go_ret
    exact ⟨ret_bool (by rw [HF.out]), bel⟩
  · have HF := hid (show applies 1 p q = sels q.need q.ban p.labels by rw [applies, ← HW.out, hq1, ← ibeq, hq2]; rfl)
    go_enter Tryz.func124, Tryz.ntmps124
    go_wp2_with (go_at_call 154; refine (selects_any _ _ _ _ _ _ _ n0 n1 b0 b1 l0 l1).mono ?_; rintro e w1 ⟨rfl, hb1⟩; obtain ⟨hc1, hf1⟩ := bcell hb1; have hz1 := hb_lt hb1)
    go_ret
    exact ⟨ret_bool (by rw [HF.out]), bel⟩
set_option maxHeartbeats 1000000 in
theorem letsGo_out (q : DPol) (oa ia : Option Addr) (oc ic : Nat) (sa : Option Addr) (pods : List DPod) (sc : Nat) (k : DPkt) (w : World)
    (hr : rdRules w.heap.size w oa q.outs) (hd : rdPods w.heap.size w sa pods) (ho : podsOk pods) (hq : polOk q = true) (hk : pktOk k = true) :
    Calls Tryz.prog 97 #[.agg #[.int .i64 q.space, .int .i64 q.need, .int .i64 q.ban, .int .i64 q.ways, .slice oa q.outs.length oc, .slice ia q.ins.length ic], .int .i64 1, .slice sa pods.length sc, .agg #[.int .i64 k.src, .int .i64 k.dst, .int .i64 k.proto, .int .i64 k.port]] w
      fun e w' => e = .returned (.bool (letsGo pods 1 k k.dst q)) ∧ Below w.heap.size w w' := by
  have HR := hid hr
  have HD := hid hd
  have HO := hid ho
  have HQ := hid (polOk_outs hq)
  have h0 := (btw_true.1 (polOk_space hq)).1
  have h1 := (btw_true.1 (polOk_space hq)).2
  have i0 := (pktOk_dst hk).1
  have i1 := (pktOk_dst hk).2
  have hmf := mkFunc
  clear hr hd ho hq hk
  go_enter Tryz.func97, Tryz.ntmps97
  go_wp2_with (first
    | (go_at_call 92; refine (ends_out k _).mono ?_; rintro e w1 ⟨rfl, hb1⟩; obtain ⟨hc1, hf1⟩ := bcell hb1; have hz1 := hb_lt hb1; have p0 : ∀ o, (w1.alloc o).cell? ⟨w.heap.size, 0, none⟩ = some (.int .i64 q.space) := fun o => cell_past (cell_to (by simp [go_sem]) hb1); have pp0 : ∀ o o2, ((w1.alloc o).alloc o2).cell? ⟨w.heap.size, 0, none⟩ = some (.int .i64 q.space) := fun o o2 => cell_past (cell_past (cell_to (by simp [go_sem]) hb1)); have pp1 : ∀ o o2, ((w1.alloc o).alloc o2).cell? ⟨w.heap.size, 1, none⟩ = some (.int .i64 q.need) := fun o o2 => cell_past (cell_past (cell_to (by simp [go_sem]) hb1)); have pp2 : ∀ o o2, ((w1.alloc o).alloc o2).cell? ⟨w.heap.size, 2, none⟩ = some (.int .i64 q.ban) := fun o o2 => cell_past (cell_past (cell_to (by simp [go_sem]) hb1)); have pp3 : ∀ o o2, ((w1.alloc o).alloc o2).cell? ⟨w.heap.size, 3, none⟩ = some (.int .i64 q.ways) := fun o o2 => cell_past (cell_past (cell_to (by simp [go_sem]) hb1)); have pp4 : ∀ o o2, ((w1.alloc o).alloc o2).cell? ⟨w.heap.size, 4, none⟩ = some (.slice oa q.outs.length oc) := fun o o2 => cell_past (cell_past (cell_to (by simp [go_sem]) hb1)); have pp5 : ∀ o o2, ((w1.alloc o).alloc o2).cell? ⟨w.heap.size, 5, none⟩ = some (.slice ia q.ins.length ic) := fun o o2 => cell_past (cell_past (cell_to (by simp [go_sem]) hb1)))
    | (go_at_call 127; refine (rules_out q _ _ _ _ _).mono ?_; rintro e w2 ⟨rfl, hb2⟩; obtain ⟨hc2, hf2⟩ := bcell hb2; have hz2 := hb_lt hb2)
    | (go_at_call 126; refine (anyRule (ruleFits pods q.space k k.dst) _ _ _ _ _ _ _ (rdRules.to HR.out bel) (fun r pa qa pc qc w3 hx hz hp hq => goClo r pa qa pc qc q.space _ pods sc k.dst k _ _ _ w3 hp hq (rdPods.to (rdPods.to HD.out bel) hz) HO.out (HQ.out r hx) i0 i1 h0 h1 (cell_to (cell_to (by simp [go_sem]) hb2) hz) (cell_to (cell_to (by simp [go_sem]) hb2) hz) (cell_to (cell_to (by simp [go_sem]) hb2) hz) (cell_to (cell_to (cell_past (cell_past (cell_to (by simp [go_sem]) hb1))) hb2) hz) (cell_to (cell_to (cell_past (cell_past (cell_to (by simp [go_sem]) hb1))) hb2) hz) (cell_to (cell_to (cell_past (cell_past (cell_to (by simp [go_sem]) hb1))) hb2) hz) (cell_to (cell_to (cell_past (cell_past (cell_to (by simp [go_sem]) hb1))) hb2) hz))).mono ?_; rintro e w3 ⟨rfl, hb3⟩; obtain ⟨hc3, hf3⟩ := bcell hb3; have hz3 := hb_lt hb3))
  go_ret
  exact ⟨rfl, bel⟩
theorem rules_in (p : DPol) (oa ia : Option Addr) (oc ic : Nat) (w : World) :
    Calls Tryz.prog 127 #[.agg #[.int .i64 p.space, .int .i64 p.need, .int .i64 p.ban, .int .i64 p.ways, .slice oa p.outs.length oc, .slice ia p.ins.length ic], .int .i64 2] w fun e w' => e = .returned (.slice ia p.ins.length ic) ∧ Below w.heap.size w w' := by
  go_enter Tryz.func127, Tryz.ntmps127
  go_wp2
  go_ret
  exact ⟨rfl, bel⟩
theorem applies_in (q : DPol) (oa ia : Option Addr) (on inn oc ic : Nat) (p : DPod) (w : World) (hq : polOk q = true) (hp : podOk p = true) :
    Calls Tryz.prog 124 #[.agg #[.int .i64 q.space, .int .i64 q.need, .int .i64 q.ban, .int .i64 q.ways, .slice oa on oc, .slice ia inn ic], .int .i64 2, .agg #[.int .i64 p.host, .int .i64 p.ip, .int .i64 p.space, .int .i64 p.labels]] w fun e w' => e = .returned (.bool (applies 2 p q)) ∧ Below w.heap.size w w' := by
  obtain ⟨⟨n0, n1⟩, b0, b1⟩ := selOk_true.1 (polOk_sel hq)
  obtain ⟨_, _, _, l0, l1⟩ := podOk_true.1 hp
  have hw := btw_true.1 (polOk_ways hq)
  have HW := hid (ways_eq2 q.ways 2 hw.1 hw.2 (by omega))
  clear hq hp
  cases hq1 : (bits .and .i64 q.ways 2 != 0)
  · have HF := hid (show applies 2 p q = false by rw [applies, ← HW.out, hq1]; rfl)
    go_enter Tryz.func124, Tryz.ntmps124
    go_wp2
    go_ret
    exact ⟨ret_bool (by rw [HF.out]), bel⟩
  cases hq2 : (q.space == p.space)
  · have HF := hid (show applies 2 p q = false by rw [applies, ← HW.out, hq1, ← ibeq, hq2]; rfl)
    go_enter Tryz.func124, Tryz.ntmps124
    go_wp2
    go_ret
    exact ⟨ret_bool (by rw [HF.out]), bel⟩
  · have HF := hid (show applies 2 p q = sels q.need q.ban p.labels by rw [applies, ← HW.out, hq1, ← ibeq, hq2]; rfl)
    go_enter Tryz.func124, Tryz.ntmps124
    go_wp2_with (go_at_call 154; refine (selects_any _ _ _ _ _ _ _ n0 n1 b0 b1 l0 l1).mono ?_; rintro e w1 ⟨rfl, hb1⟩; obtain ⟨hc1, hf1⟩ := bcell hb1; have hz1 := hb_lt hb1)
    go_ret
    exact ⟨ret_bool (by rw [HF.out]), bel⟩
set_option maxHeartbeats 1000000 in
theorem letsGo_in (q : DPol) (oa ia : Option Addr) (oc ic : Nat) (sa : Option Addr) (pods : List DPod) (sc : Nat) (k : DPkt) (w : World)
    (hr : rdRules w.heap.size w ia q.ins) (hd : rdPods w.heap.size w sa pods) (ho : podsOk pods) (hq : polOk q = true) (hk : pktOk k = true) :
    Calls Tryz.prog 97 #[.agg #[.int .i64 q.space, .int .i64 q.need, .int .i64 q.ban, .int .i64 q.ways, .slice oa q.outs.length oc, .slice ia q.ins.length ic], .int .i64 2, .slice sa pods.length sc, .agg #[.int .i64 k.src, .int .i64 k.dst, .int .i64 k.proto, .int .i64 k.port]] w
      fun e w' => e = .returned (.bool (letsGo pods 2 k k.src q)) ∧ Below w.heap.size w w' := by
  have HR := hid hr
  have HD := hid hd
  have HO := hid ho
  have HQ := hid (polOk_ins hq)
  have h0 := (btw_true.1 (polOk_space hq)).1
  have h1 := (btw_true.1 (polOk_space hq)).2
  have i0 := (pktOk_src hk).1
  have i1 := (pktOk_src hk).2
  have hmf := mkFunc
  clear hr hd ho hq hk
  go_enter Tryz.func97, Tryz.ntmps97
  go_wp2_with (first
    | (go_at_call 92; refine (ends_in k _).mono ?_; rintro e w1 ⟨rfl, hb1⟩; obtain ⟨hc1, hf1⟩ := bcell hb1; have hz1 := hb_lt hb1; have p0 : ∀ o, (w1.alloc o).cell? ⟨w.heap.size, 0, none⟩ = some (.int .i64 q.space) := fun o => cell_past (cell_to (by simp [go_sem]) hb1); have pp0 : ∀ o o2, ((w1.alloc o).alloc o2).cell? ⟨w.heap.size, 0, none⟩ = some (.int .i64 q.space) := fun o o2 => cell_past (cell_past (cell_to (by simp [go_sem]) hb1)); have pp1 : ∀ o o2, ((w1.alloc o).alloc o2).cell? ⟨w.heap.size, 1, none⟩ = some (.int .i64 q.need) := fun o o2 => cell_past (cell_past (cell_to (by simp [go_sem]) hb1)); have pp2 : ∀ o o2, ((w1.alloc o).alloc o2).cell? ⟨w.heap.size, 2, none⟩ = some (.int .i64 q.ban) := fun o o2 => cell_past (cell_past (cell_to (by simp [go_sem]) hb1)); have pp3 : ∀ o o2, ((w1.alloc o).alloc o2).cell? ⟨w.heap.size, 3, none⟩ = some (.int .i64 q.ways) := fun o o2 => cell_past (cell_past (cell_to (by simp [go_sem]) hb1)); have pp4 : ∀ o o2, ((w1.alloc o).alloc o2).cell? ⟨w.heap.size, 4, none⟩ = some (.slice oa q.outs.length oc) := fun o o2 => cell_past (cell_past (cell_to (by simp [go_sem]) hb1)); have pp5 : ∀ o o2, ((w1.alloc o).alloc o2).cell? ⟨w.heap.size, 5, none⟩ = some (.slice ia q.ins.length ic) := fun o o2 => cell_past (cell_past (cell_to (by simp [go_sem]) hb1)))
    | (go_at_call 127; refine (rules_in q _ _ _ _ _).mono ?_; rintro e w2 ⟨rfl, hb2⟩; obtain ⟨hc2, hf2⟩ := bcell hb2; have hz2 := hb_lt hb2)
    | (go_at_call 126; refine (anyRule (ruleFits pods q.space k k.src) _ _ _ _ _ _ _ (rdRules.to HR.out bel) (fun r pa qa pc qc w3 hx hz hp hq => goClo r pa qa pc qc q.space _ pods sc k.src k _ _ _ w3 hp hq (rdPods.to (rdPods.to HD.out bel) hz) HO.out (HQ.out r hx) i0 i1 h0 h1 (cell_to (cell_to (by simp [go_sem]) hb2) hz) (cell_to (cell_to (by simp [go_sem]) hb2) hz) (cell_to (cell_to (by simp [go_sem]) hb2) hz) (cell_to (cell_to (cell_past (cell_past (cell_to (by simp [go_sem]) hb1))) hb2) hz) (cell_to (cell_to (cell_past (cell_past (cell_to (by simp [go_sem]) hb1))) hb2) hz) (cell_to (cell_to (cell_past (cell_past (cell_to (by simp [go_sem]) hb1))) hb2) hz) (cell_to (cell_to (cell_past (cell_past (cell_to (by simp [go_sem]) hb1))) hb2) hz))).mono ?_; rintro e w3 ⟨rfl, hb3⟩; obtain ⟨hc3, hf3⟩ := bcell hb3; have hz3 := hb_lt hb3))
  go_ret
  exact ⟨rfl, bel⟩
theorem firstBad_none {good : Nat → Bool} {n : Nat} (h : ∀ j, j < n → good j = true) : firstBad good n = none := by
  unfold firstBad
  rw [List.find?_eq_none]
  intro i hi
  simp [h i (List.mem_range.1 hi)]
theorem firstBad_some {good : Nat → Bool} {n k : Nat} (h : ∀ j, j < k → good j = true) (hk : k < n) (hb : good k = false) : firstBad good n = some k := by
  unfold firstBad
  rw [List.find?_eq_some_iff_getElem]
  refine ⟨by simp [hb], k, by simpa using hk, by simp, fun j hj => ?_⟩
  simp [h j hj]
theorem right_many {c : DClu} (h : 8 < c.pods.length ∨ 4 < c.pols.length) : right c = (1, 0) := by rw [right, if_pos h]
theorem right_pod {c : DClu} {k : Nat} (h : ¬ (8 < c.pods.length ∨ 4 < c.pols.length)) (hk : firstBad (podGood c.pods) c.pods.length = some k) : right c = (2, (k : Int)) := by
  rw [right, if_neg h, hk]
theorem right_pol {c : DClu} {k : Nat} (h : ¬ (8 < c.pods.length ∨ 4 < c.pols.length)) (hp : firstBad (podGood c.pods) c.pods.length = none) (hk : firstBad (polGood c.pols) c.pols.length = some k) : right c = (3, (k : Int)) := by
  rw [right, if_neg h, hp]; simp only [hk]
theorem right_ok {c : DClu} (h : ¬ (8 < c.pods.length ∨ 4 < c.pols.length)) (hp : firstBad (podGood c.pods) c.pods.length = none) (hk : firstBad (polGood c.pols) c.pols.length = none) : right c = (0, 0) := by
  rw [right, if_neg h, hp]; simp only [hk]
theorem taken_eq (m : List DPod) (ip : Int) : (podAt m ip).isSome = !(m.all fun q => decide (q.ip ≠ ip)) := by
  unfold podAt
  induction m with
  | nil => rfl
  | cons a t ih =>
    by_cases h : a.ip = ip
    · simp [List.find?_cons, h]
    · simp only [List.find?_cons, decide_eq_false h, List.all_cons, decide_eq_true (show a.ip ≠ ip from h), Bool.true_and]
      exact ih
theorem podGood_some {l : List DPod} {k : Nat} {p : DPod} (h : l[k]? = some p) : podGood l k = (podOk p && !(podAt (l.take k) p.ip).isSome) := by
  rw [podGood, h]
  show (podOk p && _) = _
  rw [taken_eq, Bool.not_not]
theorem polGood_some {l : List DPol} {k : Nat} {p : DPol} (h : l[k]? = some p) : polGood l k = polOk p := by rw [polGood, h]
theorem rdPods_take {B : Nat} {w : World} {a : Option Addr} {l : List DPod} (h : rdPods B w a l) (k : Nat) : rdPods B w a (l.take k) := by
  refine ⟨?_, fun i x hx => h.2 i x ?_⟩
  · have := h.1
    have h2 : (l.take k).length ≤ l.length := by rw [List.length_take]; omega
    omega
  · rw [List.getElem?_take] at hx
    split at hx
    · exact hx
    · cases hx
theorem taken_take (a : Option Addr) (cap k : Nat) (l : List DPod) (ip : Int) (w : World) (hl : rdPods w.heap.size w a l) (hk : k ≤ l.length) :
    Calls Tryz.prog 68 #[.slice a k cap, .int .i64 ip] w fun e w' => e = .returned (.bool (podAt (l.take k) ip).isSome) ∧ Below w.heap.size w w' := by
  have := taken_any a cap (l.take k) ip w (rdPods_take hl k)
  rwa [List.length_take, Nat.min_eq_left hk] at this
set_option maxHeartbeats 4000000 in
theorem right_any (c : DClu) (pa qa : Option Addr) (pc qc : Nat) (w : World) (hp : rdPods w.heap.size w pa c.pods) (hq : rdPols w.heap.size w qa c.pols) (hpc : c.pods.length ≤ pc) :
    Calls Tryz.prog 56 #[.agg #[.slice pa c.pods.length pc, .slice qa c.pols.length qc]] w fun e w' => e = .returned (.tuple #[.int .i64 (right c).1, .int .i64 (right c).2]) ∧ Below w.heap.size w w' := by
  have HP := hid hp
  have HQ := hid hq
  have hl1 := hp.1
  have hl2 := hq.1
  clear hp hq
  by_cases hn : 8 < c.pods.length
  · have HR := hid (right_many (c := c) (Or.inl hn))
    go_enter Tryz.func56, Tryz.ntmps56
    go_wp2
    go_ret2
    exact ⟨by rw [HR.out]; rfl, bel⟩
  by_cases hm : 4 < c.pols.length
  · have HR := hid (right_many (c := c) (Or.inr hm))
    go_enter Tryz.func56, Tryz.ntmps56
    go_wp2
    go_ret2
    exact ⟨by rw [HR.out]; rfl, bel⟩
  have HN := hid (show ¬ (8 < c.pods.length ∨ 4 < c.pols.length) by omega)
  go_enter Tryz.func56, Tryz.ntmps56
  go_wp2
  go_loopw [21] (fun i wr => ∃ k : Nat, k ≤ c.pods.length ∧ i = .int .i64 k ∧ (∀ j, j < k → podGood c.pods j = true) ∧ Below (w.alloc (Obj.cells #[.slice pa c.pods.length pc, .slice qa c.pols.length qc] 28)).heap.size (w.alloc (Obj.cells #[.slice pa c.pods.length pc, .slice qa c.pols.length qc] 28)) wr) (fun i _ => c.pods.length - (intOf i).toNat)
  case atStart => exact ⟨0, Nat.zero_le _, rfl, fun j hj => absurd hj (Nat.not_lt_zero _), Below.refl _ _⟩
  case round =>
    obtain ⟨k, hk, rfl, hall, hbw⟩ := hrel
    have HA := hid hall
    clear hall
    have HW := hid hbw
    have hB : Below w.heap.size w wr := (Below.refl _ _ |>.alloc (Nat.le_refl _) _).trans (hbw.mono (by simp))
    clear hbw
    have z0 : wr.cell? ⟨w.heap.size, 0, none⟩ = some (.slice pa c.pods.length pc) := cell_to (by simp [go_sem]) HW.out
    have z1 : wr.cell? ⟨w.heap.size, 1, none⟩ = some (.slice qa c.pols.length qc) := cell_to (by simp [go_sem]) HW.out
    by_cases hlt : k < c.pods.length
    · obtain ⟨x, hxk⟩ : ∃ x, c.pods[k]? = some x := ⟨c.pods[k], by simp [hlt]⟩
      have HX := hid hxk
      have HG := hid (podGood_some hxk)
      clear hxk
      obtain ⟨b, off, rfl, hb, c0, c1, c2, c3⟩ := HP.out.2 k x HX.out
      have d0 := cell_to c0 hB
      have d1 := cell_to c1 hB
      have d2 := cell_to c2 hB
      have d3 := cell_to c3 hB
      have y0 : ∀ o, (wr.alloc o).cell? ⟨w.heap.size, 0, none⟩ = some (.slice (some ⟨b, off, none⟩) c.pods.length pc) := fun o => cell_past z0
      clear c0 c1 c2 c3
      cases hq1 : podOk x
      · have HF := hid (right_pod HN.out (firstBad_some HA.out hlt (by rw [HG.out, hq1]; rfl)))
        go_wp2
        refine wp_region_grow (by kernel_rfl) (by kernel_rfl) ?_
        repeat (go_big_quiet_step (first
          | (go_at_call 90; exact Calls.grow_bool hq1 (podRight_any x _))))
        refine wpQuiet_nil ?_
        intro w1 hb1
        obtain ⟨hc1, hf1⟩ := bcell hb1
        have hz1 := hb_lt hb1
        go_wp2
        go_ret2
        exact ⟨by rw [HF.out]; rfl, bel⟩
      · cases hq2 : (podAt (c.pods.take k) x.ip).isSome
        · have HH := hid (show podGood c.pods k = true by rw [HG.out, hq1, hq2]; rfl)
          go_wp2
          refine wp_region_grow (by kernel_rfl) (by kernel_rfl) ?_
          repeat (go_big_quiet_step (first
            | (go_at_call 90; exact Calls.grow_bool hq1 (podRight_any x _))
            | (go_at_call 68; exact Calls.grow_bool hq2 (taken_take _ _ _ _ _ _ (rdPods.to (rdPods.to HP.out (Ext.alloc hB _)) (World.below_grow _ _)) hk))))
          refine wpQuiet_nil ?_
          intro w1 hb1
          obtain ⟨hc1, hf1⟩ := bcell hb1
          have hz1 := hb_lt hb1
          go_wp2
          exact ⟨⟨k + 1, by omega, by go_num, fun j hj => by
            rcases Nat.lt_succ_iff_lt_or_eq.1 hj with h | h
            · exact HA.out j h
            · subst h; exact HH.out, Ext.trans (Ext.alloc HW.out _) hb1⟩, by simp [intOf]; omega⟩
        · have HF := hid (right_pod HN.out (firstBad_some HA.out hlt (by rw [HG.out, hq1, hq2]; rfl)))
          go_wp2
          refine wp_region_grow (by kernel_rfl) (by kernel_rfl) ?_
          repeat (go_big_quiet_step (first
            | (go_at_call 90; exact Calls.grow_bool hq1 (podRight_any x _))
            | (go_at_call 68; exact Calls.grow_bool hq2 (taken_take _ _ _ _ _ _ (rdPods.to (rdPods.to HP.out (Ext.alloc hB _)) (World.below_grow _ _)) hk))))
          refine wpQuiet_nil ?_
          intro w1 hb1
          obtain ⟨hc1, hf1⟩ := bcell hb1
          have hz1 := hb_lt hb1
          go_wp2
          go_ret2
          exact ⟨by rw [HF.out]; rfl, bel⟩
    · have HD := hid (firstBad_none (good := podGood c.pods) (n := c.pods.length) (fun j hj => HA.out j (by omega)))
      obtain ⟨wa, hwa⟩ : ∃ wa, wa = wr := ⟨_, rfl⟩
      subst hwa
      go_wp2
      go_loopw [43] (fun i wr => ∃ j : Nat, j ≤ c.pols.length ∧ i = .int .i64 j ∧ (∀ t, t < j → polGood c.pols t = true) ∧ Below wa.heap.size wa wr) (fun i _ => c.pols.length - (intOf i).toNat)
      case atStart => exact ⟨0, Nat.zero_le _, rfl, fun j hj => absurd hj (Nat.not_lt_zero _), Below.refl _ _⟩
      case round =>
        obtain ⟨j, hj, rfl, hall, hbw⟩ := hrel
        have HE := hid hall
        clear hall
        have hC : Below w.heap.size w wr := Ext.trans hB hbw
        by_cases hlt2 : j < c.pols.length
        · obtain ⟨x, hxk⟩ : ∃ x, c.pols[j]? = some x := ⟨c.pols[j], by simp [hlt2]⟩
          have HX := hid hxk
          have HG := hid (polGood_some hxk)
          clear hxk
          obtain ⟨b, off, rfl, hb, c0, c1, c2, c3, ⟨oa, oc, c4, ho⟩, ia, ic, c5, hi⟩ := HQ.out.2 j x HX.out
          have d0 := cell_to c0 hC
          have d1 := cell_to c1 hC
          have d2 := cell_to c2 hC
          have d3 := cell_to c3 hC
          have d4 := cell_to c4 hC
          have d5 := cell_to c5 hC
          have HO := hid ho
          have HI := hid hi
          clear c0 c1 c2 c3 c4 c5 ho hi
          cases hq1 : polOk x
          · have HF := hid (right_pol HN.out HD.out (firstBad_some HE.out hlt2 (by rw [HG.out, hq1])))
            go_wp2_with (go_at_call 91; refine (polRight_any x _ _ _ _ _ (rdRules.to HO.out bel) (rdRules.to HI.out bel)).mono ?_; rintro e w1 ⟨rfl, hb1⟩; obtain ⟨hc1, hf1⟩ := bcell hb1; have hz1 := hb_lt hb1)
            go_ret2
            exact ⟨by rw [HF.out]; rfl, bel⟩
          · go_wp2_with (go_at_call 91; refine (polRight_any x _ _ _ _ _ (rdRules.to HO.out bel) (rdRules.to HI.out bel)).mono ?_; rintro e w1 ⟨rfl, hb1⟩; obtain ⟨hc1, hf1⟩ := bcell hb1; have hz1 := hb_lt hb1)
            exact ⟨⟨j + 1, by omega, by go_num, fun t ht => by
              rcases Nat.lt_succ_iff_lt_or_eq.1 ht with h | h
              · exact HE.out t h
              · subst h; rw [HG.out, hq1], Ext.trans (Ext.alloc hbw _) hb1⟩, by simp [intOf]; omega⟩
        · have HF := hid (right_ok HN.out HD.out (firstBad_none (fun t ht => HE.out t (by omega))))
          go_wp2
          go_ret2
          exact ⟨by rw [HF.out]; rfl, hC⟩
end Go.Proofs.YtmkjlhplgcifiaaGreat
