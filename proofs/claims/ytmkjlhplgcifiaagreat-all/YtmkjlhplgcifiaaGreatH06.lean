/-
  Rules and policies: what fits, what applies, what is let go.
-/
import Derived.Test.YtmkjlhplgcifiaaGreatH05
import Derived.Test.YtmkjlhplgcifiaaGreatH04
namespace Go.Proofs.YtmkjlhplgcifiaaGreat
open Go.ChangeShapes Go.WideShapes Go.ChangeAt Go.RowKit
set_option linter.unusedVariables false
set_option linter.unusedSimpArgs false
attribute [local simp] World.cell?_grow
attribute [local go_sem] World.cell?_grow eqg_blk std_blk eqg_pod std_pod eqg_sel std_sel eqg_prt std_prt
attribute [local go_sem ↓] eql_blk eql_sel neq_sel eql_prt eql_pod met_in1 met_in2 met_re1 met_re2 met_has1 met_has2
theorem rulOk_true {r : DRule} (h : rulOk r = true) : (∀ x ∈ r.peers, peerOk x = true) ∧ ∀ x ∈ r.ports, prtOk x = true := by
  simp only [rulOk, few, Bool.and_eq_true, List.all_eq_true] at h
  exact ⟨h.1.2, h.2.2⟩
set_option maxHeartbeats 1000000 in
theorem ruleFits_any (r : DRule) (pa qa : Option Addr) (pc qc : Nat) (space : Int) (sa : Option Addr) (pods : List DPod) (sc : Nat) (far : Int) (k : DPkt) (w : World)
    (hp : rdPeers w.heap.size w pa r.peers) (hq : rdPorts w.heap.size w qa r.ports) (hd : rdPods w.heap.size w sa pods) (ho : podsOk pods) (hx : rulOk r = true) (i0 : 0 ≤ far) (i1 : far ≤ 4294967295) (h0 : 0 ≤ space) (h1 : space ≤ 3) :
    Calls Tryz.prog 129 #[.agg #[.slice pa r.peers.length pc, .slice qa r.ports.length qc], .agg #[.int .i64 space, .slice sa pods.length sc], .int .i64 far, .agg #[.int .i64 k.src, .int .i64 k.dst, .int .i64 k.proto, .int .i64 k.port]] w
      fun e w' => e = .returned (.bool (ruleFits pods space k far r)) ∧ Below w.heap.size w w' := by
  have HP := hid hp
  have HQ := hid hq
  have HD := hid hd
  have HO := hid ho
  have HX := hid (rulOk_true hx)
  have hmf := mkFunc
  clear hp hq hd ho hx
  cases hq1 : eoa r.peers (peerHas pods space far)
  · have HF := hid (show ruleFits pods space k far r = false by rw [ruleFits, hq1]; rfl)
    go_enter Tryz.func129, Tryz.ntmps129
    go_wp2_with (go_at_call 155; refine (eoaPeer (peerHas pods space far) _ _ _ _ _ _ (rdPeers.to HP.out bel) (fun x ea ec w2 hx hz hr => fitsClo1 x ea ec far space _ pods sc _ _ w2 hr (rdPods.to (rdPods.to HD.out bel) hz) HO.out (HX.out.1 x hx) i0 i1 h0 h1 (cell_to (by simp [go_sem]) hz) (cell_to (by simp [go_sem]) hz) (cell_to (by simp [go_sem]) hz))).mono ?_; rintro e w1 ⟨rfl, hb1⟩; obtain ⟨hc1, hf1⟩ := bcell hb1; have hz1 := hb_lt hb1)
    go_ret
    exact ⟨ret_bool (by rw [HF.out]), bel⟩
  · have HF := hid (show ruleFits pods space k far r = eoa r.ports (prtFits k) by rw [ruleFits, hq1]; rfl)
    go_enter Tryz.func129, Tryz.ntmps129
    go_wp2_with (first
      | (go_at_call 155; refine (eoaPeer (peerHas pods space far) _ _ _ _ _ _ (rdPeers.to HP.out bel) (fun x ea ec w2 hx hz hr => fitsClo1 x ea ec far space _ pods sc _ _ w2 hr (rdPods.to (rdPods.to HD.out bel) hz) HO.out (HX.out.1 x hx) i0 i1 h0 h1 (cell_to (by simp [go_sem]) hz) (cell_to (by simp [go_sem]) hz) (cell_to (by simp [go_sem]) hz))).mono ?_; rintro e w1 ⟨rfl, hb1⟩; obtain ⟨hc1, hf1⟩ := bcell hb1; have hz1 := hb_lt hb1)
      | (go_at_call 158; refine (eoaPort (prtFits k) _ _ _ _ _ (rdPorts.to HQ.out bel) (fun x w2 hx hz => fitsClo2 x k _ w2 (cell_to (cell_to (by simp [go_sem]) hb1) hz) (cell_to (cell_to (by simp [go_sem]) hb1) hz) (cell_to (cell_to (by simp [go_sem]) hb1) hz) (cell_to (cell_to (by simp [go_sem]) hb1) hz))).mono ?_; rintro e w2 ⟨rfl, hb2⟩; obtain ⟨hc2, hf2⟩ := bcell hb2; have hz2 := hb_lt hb2))
    go_ret
    exact ⟨ret_bool (by rw [HF.out]), bel⟩
theorem goClo (r : DRule) (pa qa : Option Addr) (pc qc : Nat) (space : Int) (sa : Option Addr) (pods : List DPod) (sc : Nat) (far : Int) (k : DPkt) (nb fb kb : Nat) (w : World)
    (hp : rdPeers w.heap.size w pa r.peers) (hq : rdPorts w.heap.size w qa r.ports) (hd : rdPods w.heap.size w sa pods) (ho : podsOk pods) (hx : rulOk r = true) (i0 : 0 ≤ far) (i1 : far ≤ 4294967295) (h0 : 0 ≤ space) (h1 : space ≤ 3)
    (c1 : w.cell? ⟨fb, 0, none⟩ = some (.int .i64 far)) (c2 : w.cell? ⟨nb, 0, none⟩ = some (.int .i64 space)) (c3 : w.cell? ⟨nb, 1, none⟩ = some (.slice sa pods.length sc))
    (k0 : w.cell? ⟨kb, 0, none⟩ = some (.int .i64 k.src)) (k1 : w.cell? ⟨kb, 1, none⟩ = some (.int .i64 k.dst)) (k2 : w.cell? ⟨kb, 2, none⟩ = some (.int .i64 k.proto)) (k3 : w.cell? ⟨kb, 3, none⟩ = some (.int .i64 k.port)) :
    Calls Tryz.prog 128 #[.agg #[.slice pa r.peers.length pc, .slice qa r.ports.length qc], .pointer (some ⟨nb, 0, none⟩), .pointer (some ⟨fb, 0, none⟩), .pointer (some ⟨kb, 0, none⟩)] w
      fun e w' => e = .returned (.bool (ruleFits pods space k far r)) ∧ Below w.heap.size w w' := by
  have HP := hid hp
  have HQ := hid hq
  have HD := hid hd
  have HO := hid ho
  have HX := hid hx
  have l1 := cell_lt c1
  have l2 := cell_lt c2
  have l3 := cell_lt k0
  clear hp hq hd ho hx
  go_enter Tryz.func128, Tryz.ntmps128
  go_wp2_with (go_at_call 129; refine (ruleFits_any r _ _ _ _ _ _ pods _ _ k _ (rdPeers.to HP.out bel) (rdPorts.to HQ.out bel) (rdPods.to HD.out bel) HO.out HX.out i0 i1 h0 h1).mono ?_; rintro e w1 ⟨rfl, hb1⟩; obtain ⟨hc1, hf1⟩ := bcell hb1; have hz1 := hb_lt hb1)
  go_ret
  exact ⟨rfl, bel⟩
theorem few_way (l : List DRule) (b : Bool) : few l (if b then 2 else 0) rulOk = rulesOk l b := by
  unfold rulesOk few
  cases b
  · by_cases h : l.length = 0
    · simp [h]
    · have : ¬ ((l.length : Int) ≤ 0) := by omega
      simp [this, h]
  · simp
theorem polOk_most (p : DPol) (h : btw p.ways 1 3 = true) : polOk p = (btw p.space 0 3 && selOk p.need p.ban && few p.outs (most p.ways 1) rulOk && few p.ins (most p.ways 2) rulOk) := by
  have h' := btw_true.1 h
  have e1 : most p.ways 1 = if decide (p.ways % 2 = 1) then 2 else 0 := by
    unfold most
    by_cases h1 : p.ways % 2 = 1
    · rw [if_pos (by omega)]; simp [h1]
    · rw [if_neg (by omega)]; simp [h1]
  have e2 : most p.ways 2 = if decide (p.ways / 2 = 1) then 2 else 0 := by
    unfold most
    by_cases h1 : p.ways / 2 = 1
    · rw [if_pos (by omega)]; simp [h1]
    · rw [if_neg (by omega)]; simp [h1]
  rw [e1, e2, few_way, few_way, polOk, h]
  simp
set_option maxHeartbeats 1000000 in
theorem polRight_any (p : DPol) (oa ia : Option Addr) (oc ic : Nat) (w : World) (ho : rdRules w.heap.size w oa p.outs) (hi : rdRules w.heap.size w ia p.ins) :
    Calls Tryz.prog 91 #[.agg #[.int .i64 p.space, .int .i64 p.need, .int .i64 p.ban, .int .i64 p.ways, .slice oa p.outs.length oc, .slice ia p.ins.length ic]] w fun e w' => e = .returned (.bool (polOk p)) ∧ Below w.heap.size w w' := by
  have HO := hid ho
  have HI := hid hi
  clear ho hi
  have HM := hid (polOk_most p)
  go_enter Tryz.func91, Tryz.ntmps91
  cases hq1 : btw p.space 0 3
  · have HF := hid (show polOk p = false by rw [polOk, hq1]; rfl)
    go_wp2_with (first
      | (go_at_call 118; refine (mostRules_any _ _).mono ?_; rintro e w' ⟨rfl, rfl⟩)
      | (go_at_call 116; refine (space_any _ _).mono ?_; rintro e w' ⟨rfl, rfl⟩))
    go_ret
    exact ⟨ret_bool (by rw [HF.out]), bel⟩
  cases hq2 : selOk p.need p.ban
  · have HF := hid (show polOk p = false by rw [polOk, hq1, hq2]; rfl)
    go_wp2_with (first
      | (go_at_call 118; refine (mostRules_any _ _).mono ?_; rintro e w' ⟨rfl, rfl⟩)
      | (go_at_call 116; refine (space_any _ _).mono ?_; rintro e w' ⟨rfl, rfl⟩)
      | (go_at_call 119; refine (selRight_any _ _ _).mono ?_; rintro e w1 ⟨rfl, hb1⟩; obtain ⟨hc1, hf1⟩ := bcell hb1; have hz1 := hb_lt hb1))
    go_ret
    exact ⟨ret_bool (by rw [HF.out]), bel⟩
  cases hq3 : btw p.ways 1 3
  · have HF := hid (show polOk p = false by rw [polOk, hq1, hq2, hq3]; rfl)
    go_wp2_with (first
      | (go_at_call 118; refine (mostRules_any _ _).mono ?_; rintro e w' ⟨rfl, rfl⟩)
      | (go_at_call 116; refine (space_any _ _).mono ?_; rintro e w' ⟨rfl, rfl⟩)
      | (go_at_call 119; refine (selRight_any _ _ _).mono ?_; rintro e w1 ⟨rfl, hb1⟩; obtain ⟨hc1, hf1⟩ := bcell hb1; have hz1 := hb_lt hb1)
      | (go_at_call 63; refine (within_any _ _ _ _).mono ?_; rintro e w' ⟨rfl, rfl⟩))
    go_ret
    exact ⟨ret_bool (by rw [HF.out]), bel⟩
  cases hq4 : few p.outs (most p.ways 1) rulOk
  · have HF := hid (show polOk p = false by rw [HM.out hq3, hq1, hq2, hq4]; rfl)
    go_wp2_with (first
      | (go_at_call 118; refine (mostRules_any _ _).mono ?_; rintro e w' ⟨rfl, rfl⟩)
      | (go_at_call 116; refine (space_any _ _).mono ?_; rintro e w' ⟨rfl, rfl⟩)
      | (go_at_call 119; refine (selRight_any _ _ _).mono ?_; rintro e w1 ⟨rfl, hb1⟩; obtain ⟨hc1, hf1⟩ := bcell hb1; have hz1 := hb_lt hb1)
      | (go_at_call 63; refine (within_any _ _ _ _).mono ?_; rintro e w' ⟨rfl, rfl⟩)
      | (go_at_call 120; refine (fewRule rulOk _ _ p.outs _ _ (rdRules.to HO.out bel) (fun x pa qa pc qc w1 _ _ h1 h2 => ruleRight_any x pa qa pc qc w1 h1 h2)).mono ?_; rw [hq4]; rintro e w2 ⟨rfl, hb2⟩; obtain ⟨hc2, hf2⟩ := bcell hb2; have hz2 := hb_lt hb2))
    go_ret
    exact ⟨ret_bool (by rw [HF.out]), bel⟩
  have HF := hid (show polOk p = few p.ins (most p.ways 2) rulOk by rw [HM.out hq3, hq1, hq2, hq4]; rfl)
  go_wp2_with (first
    | (go_at_call 118; refine (mostRules_any _ _).mono ?_; rintro e w' ⟨rfl, rfl⟩)
    | (go_at_call 116; refine (space_any _ _).mono ?_; rintro e w' ⟨rfl, rfl⟩)
    | (go_at_call 119; refine (selRight_any _ _ _).mono ?_; rintro e w1 ⟨rfl, hb1⟩; obtain ⟨hc1, hf1⟩ := bcell hb1; have hz1 := hb_lt hb1)
    | (go_at_call 63; refine (within_any _ _ _ _).mono ?_; rintro e w' ⟨rfl, rfl⟩))
  go_at_call 120
  refine (fewRule rulOk _ _ p.outs _ _ (rdRules.to HO.out bel) (fun x pa qa pc qc w1 _ _ h1 h2 => ruleRight_any x pa qa pc qc w1 h1 h2)).mono ?_
  rw [hq4]
  rintro e w2 ⟨rfl, hb2⟩; obtain ⟨hc2, hf2⟩ := bcell hb2; have hz2 := hb_lt hb2
  go_wp2_with fail
  refine (fewRule rulOk _ _ p.ins _ _ (rdRules.to HI.out bel) (fun x pa qa pc qc w1 _ _ h1 h2 => ruleRight_any x pa qa pc qc w1 h1 h2)).mono ?_
  rintro e w3 ⟨rfl, hb3⟩; obtain ⟨hc3, hf3⟩ := bcell hb3; have hz3 := hb_lt hb3
  go_wp2
  go_ret
  exact ⟨ret_bool (by rw [HF.out]), bel⟩
end Go.Proofs.YtmkjlhplgcifiaaGreat
namespace Go.Proofs.YtmkjlhplgcifiaaGreat
open Go.ChangeShapes Go.WideShapes Go.ChangeAt Go.RowKit
set_option linter.unusedVariables false
set_option linter.unusedSimpArgs false
attribute [local simp] World.cell?_grow World.cell?_alloc_there
attribute [local go_sem] World.cell?_grow World.cell?_alloc_there eqg_blk std_blk eqg_pod std_pod eqg_sel std_sel eqg_prt std_prt
attribute [local go_sem ↓] eql_blk eql_sel neq_sel eql_prt eql_pod met_in1 met_in2 met_re1 met_re2 met_has1 met_has2
theorem bneF {a b : Int} (h : a = b) : (a != b) = false := by simp [h]
theorem bneT {a b : Int} (h : ¬ a = b) : (a != b) = true := by simp [h]
set_option maxHeartbeats 2000000 in
theorem refPeer_pods (x : DPeer) (ea : Option Addr) (ec : Nat) (w : World) (hr : rdBlks w.heap.size w ea x.exc) (hk : x.kind = 1) :
    Calls Tryz.prog 166 #[.agg #[.int .i64 x.kind, .int .i64 x.need, .int .i64 x.ban, .int .i64 x.spaces, .int .i64 x.base, .int .i64 x.bits, .slice ea x.exc.length ec]] w fun e w' => e = .returned (.bool (peerOk x)) ∧ Below w.heap.size w w' := by
  have hlen := hr.1
  have h1 : (x.kind == 1) = true := by simp [hk]
  have HP := hid (show peerOk x = (selOk x.need x.ban && btw x.spaces 0 15 && decide (x.base = 0) && decide (x.bits = 0) && decide (x.exc.length = 0)) by rw [peerOk, if_pos hk])
  clear hr hk
  cases hq1 : selOk x.need x.ban
  · have HF := hid (show peerOk x = false by rw [HP.out, hq1]; simp)
    go_enter Tryz.func166, Tryz.ntmps166
    go_wp2_with (first
      | (go_at_call 137; refine (refSel_any _ _ _).mono ?_; rintro e w1 ⟨rfl, hb1⟩; obtain ⟨hc1, hf1⟩ := bcell hb1; have hz1 := hb_lt hb1)
      | (go_at_call 113; refine (between_any _ _ _ _).mono ?_; rintro e w' ⟨rfl, rfl⟩))
    go_ret
    exact ⟨ret_bool (by rw [HF.out]), bel⟩
  cases hq2 : btw x.spaces 0 15
  · have HF := hid (show peerOk x = false by rw [HP.out, hq1, hq2]; simp)
    go_enter Tryz.func166, Tryz.ntmps166
    go_wp2_with (first
      | (go_at_call 137; refine (refSel_any _ _ _).mono ?_; rintro e w1 ⟨rfl, hb1⟩; obtain ⟨hc1, hf1⟩ := bcell hb1; have hz1 := hb_lt hb1)
      | (go_at_call 113; refine (between_any _ _ _ _).mono ?_; rintro e w' ⟨rfl, rfl⟩))
    go_ret
    exact ⟨ret_bool (by rw [HF.out]), bel⟩
  cases hq3 : (decide (x.base = 0) && decide (x.bits = 0))
  · have HF := hid (show peerOk x = false by rw [HP.out, hq1, hq2, Bool.and_assoc (true && true), hq3]; simp)
    go_enter Tryz.func166, Tryz.ntmps166
    go_wp2_with (first
      | (go_at_call 137; refine (refSel_any _ _ _).mono ?_; rintro e w1 ⟨rfl, hb1⟩; obtain ⟨hc1, hf1⟩ := bcell hb1; have hz1 := hb_lt hb1)
      | (go_at_call 113; refine (between_any _ _ _ _).mono ?_; rintro e w' ⟨rfl, rfl⟩))
    go_ret
    exact ⟨ret_bool (by rw [HF.out]), bel⟩
  have HF := hid (show peerOk x = ((x.exc.length : Int) == 0) by rw [HP.out, hq1, hq2, Bool.and_assoc (true && true), hq3, ibeq]; simp)
  go_enter Tryz.func166, Tryz.ntmps166
  go_wp2_with (first
    | (go_at_call 137; refine (refSel_any _ _ _).mono ?_; rintro e w1 ⟨rfl, hb1⟩; obtain ⟨hc1, hf1⟩ := bcell hb1; have hz1 := hb_lt hb1)
    | (go_at_call 113; refine (between_any _ _ _ _).mono ?_; rintro e w' ⟨rfl, rfl⟩))
  go_ret
  exact ⟨ret_bool (by rw [HF.out]), bel⟩
set_option maxHeartbeats 4000000 in
theorem refPeer_blocks (x : DPeer) (ea : Option Addr) (ec : Nat) (w : World) (hr : rdBlks w.heap.size w ea x.exc) (hk : ¬ x.kind = 1) :
    Calls Tryz.prog 166 #[.agg #[.int .i64 x.kind, .int .i64 x.need, .int .i64 x.ban, .int .i64 x.spaces, .int .i64 x.base, .int .i64 x.bits, .slice ea x.exc.length ec]] w fun e w' => e = .returned (.bool (peerOk x)) ∧ Below w.heap.size w w' := by
  have hlen := hr.1
  have HR := hid hr
  have h1 : (x.kind == 1) = false := by simp [hk]
  have HP := hid (show peerOk x = (decide (x.kind = 2) && blkOk ⟨x.base, x.bits⟩ && decide (x.need = 0) && decide (x.ban = 0) && decide (x.spaces = 0) && few x.exc 2 blkOk) by rw [peerOk, if_neg hk])
  clear hr hk
  by_cases hk2 : ¬ x.kind = 2
  · have HF := hid (show peerOk x = false by rw [HP.out]; simp [hk2])
    have h2 := bneT hk2
    clear hk2
    go_enter Tryz.func166, Tryz.ntmps166
    go_wp2_with (go_at_call 142; refine (refBlk_any ⟨x.base, x.bits⟩ _).mono ?_; rintro e w1 ⟨rfl, hb1⟩; obtain ⟨hc1, hf1⟩ := bcell hb1; have hz1 := hb_lt hb1)
    go_ret
    exact ⟨ret_bool (by rw [HF.out]), bel⟩
  have hk2 := Decidable.not_not.1 hk2
  have h2 := bneF hk2
  have HK := hid hk2
  clear hk2
  cases hq1 : blkOk ⟨x.base, x.bits⟩
  · have HF := hid (show peerOk x = false by rw [HP.out, hq1]; simp)
    go_enter Tryz.func166, Tryz.ntmps166
    go_wp2_with (go_at_call 142; refine (refBlk_any ⟨x.base, x.bits⟩ _).mono ?_; rintro e w1 ⟨rfl, hb1⟩; obtain ⟨hc1, hf1⟩ := bcell hb1; have hz1 := hb_lt hb1)
    go_ret
    exact ⟨ret_bool (by rw [HF.out]), bel⟩
  cases hq2 : (decide (x.need = 0) && decide (x.ban = 0))
  · have HF := hid (show peerOk x = false by
      rw [HP.out]
      by_cases a : x.need = 0
      · by_cases b : x.ban = 0
        · simp [a, b] at hq2
        · simp [b]
      · simp [a])
    go_enter Tryz.func166, Tryz.ntmps166
    go_wp2_with (go_at_call 142; refine (refBlk_any ⟨x.base, x.bits⟩ _).mono ?_; rintro e w1 ⟨rfl, hb1⟩; obtain ⟨hc1, hf1⟩ := bcell hb1; have hz1 := hb_lt hb1)
    go_ret
    exact ⟨ret_bool (by rw [HF.out]), bel⟩
  by_cases hs : ¬ x.spaces = 0
  · have HF := hid (show peerOk x = false by rw [HP.out]; simp [hs])
    have h3 := bneT hs
    clear hs
    go_enter Tryz.func166, Tryz.ntmps166
    go_wp2_with (go_at_call 142; refine (refBlk_any ⟨x.base, x.bits⟩ _).mono ?_; rintro e w1 ⟨rfl, hb1⟩; obtain ⟨hc1, hf1⟩ := bcell hb1; have hz1 := hb_lt hb1)
    go_ret
    exact ⟨ret_bool (by rw [HF.out]), bel⟩
  have hs := Decidable.not_not.1 hs
  have h3 := bneF hs
  have HS := hid hs
  clear hs
  by_cases hl : ¬ (x.exc.length : Int) ≤ 2
  · have HF := hid (show peerOk x = false by rw [HP.out]; simp [few, hl])
    go_enter Tryz.func166, Tryz.ntmps166
    go_wp2_with (go_at_call 142; refine (refBlk_any ⟨x.base, x.bits⟩ _).mono ?_; rintro e w1 ⟨rfl, hb1⟩; obtain ⟨hc1, hf1⟩ := bcell hb1; have hz1 := hb_lt hb1)
    go_ret
    exact ⟨ret_bool (by rw [HF.out]), bel⟩
  have hl := Decidable.not_not.1 hl
  have HF := hid (show peerOk x = x.exc.all blkOk by
    have a := hq2
    simp only [Bool.and_eq_true, decide_eq_true_eq] at a
    rw [HP.out, hq1]
    simp [few, hl, HK.out, HS.out, a.1, a.2])
  go_enter Tryz.func166, Tryz.ntmps166
  go_wp2_with (go_at_call 142; refine (refBlk_any ⟨x.base, x.bits⟩ _).mono ?_; rintro e w1 ⟨rfl, hb1⟩; obtain ⟨hc1, hf1⟩ := bcell hb1; have hz1 := hb_lt hb1)
  go_loopw [6] (fun i wr => ∃ k : Nat, k ≤ x.exc.length ∧ i = .int .i64 k ∧ (x.exc.take k).all blkOk = true ∧ Below (w.alloc (Obj.cells #[.int .i64 x.kind, .int .i64 x.need, .int .i64 x.ban, .int .i64 x.spaces, .int .i64 x.base, .int .i64 x.bits, .slice ea x.exc.length ec] 69)).heap.size (w.alloc (Obj.cells #[.int .i64 x.kind, .int .i64 x.need, .int .i64 x.ban, .int .i64 x.spaces, .int .i64 x.base, .int .i64 x.bits, .slice ea x.exc.length ec] 69)) wr) (fun i _ => x.exc.length - (intOf i).toNat)
  case atStart => exact ⟨0, Nat.zero_le _, rfl, rfl, hb1⟩
  case round =>
    obtain ⟨k, hk, rfl, hall, hbw⟩ := hrel
    have HA := hid hall
    clear hall
    have z6 : wr.cell? ⟨w.heap.size, 6, none⟩ = some (.slice ea x.exc.length ec) := cell_to (by simp [go_sem]) hbw
    have hC : Below w.heap.size w wr := Ext.trans (Ext.alloc (Below.refl _ _) _) hbw
    have HW := hid hbw
    clear hbw hc1 hf1 hz1
    by_cases hlt : k < x.exc.length
    · obtain ⟨y, hxk⟩ : ∃ y, x.exc[k]? = some y := ⟨x.exc[k], by simp [hlt]⟩
      have HX := hid hxk
      clear hxk
      obtain ⟨b, off, rfl, hb, c0, c1⟩ := HR.out.2 k y HX.out
      have d0 := cell_to c0 hC
      have d1 := cell_to c1 hC
      clear c0 c1
      cases hy : blkOk y
      · go_wp2_with (go_at_call 142; refine (refBlk_any y _).mono ?_; rintro e w2 ⟨rfl, hb2⟩; obtain ⟨hc2, hf2⟩ := bcell hb2; have hz2 := hb_lt hb2)
        go_ret
        exact ⟨ret_bool (by rw [HF.out, all_false HX.out hy]), Ext.trans hC hb2⟩
      · go_wp2_with (go_at_call 142; refine (refBlk_any y _).mono ?_; rintro e w2 ⟨rfl, hb2⟩; obtain ⟨hc2, hf2⟩ := bcell hb2; have hz2 := hb_lt hb2)
        exact ⟨⟨k + 1, by omega, by go_num, take_all HX.out HA.out hy, Ext.trans HW.out hb2⟩, by simp [intOf]; omega⟩
    · go_wp2
      go_ret
      have := HA.out
      rw [List.take_of_length_le (by omega)] at this
      exact ⟨ret_bool (by rw [HF.out, this]), hC⟩
theorem refPeer_any (x : DPeer) (ea : Option Addr) (ec : Nat) (w : World) (hr : rdBlks w.heap.size w ea x.exc) :
    Calls Tryz.prog 166 #[.agg #[.int .i64 x.kind, .int .i64 x.need, .int .i64 x.ban, .int .i64 x.spaces, .int .i64 x.base, .int .i64 x.bits, .slice ea x.exc.length ec]] w fun e w' => e = .returned (.bool (peerOk x)) ∧ Below w.heap.size w w' := by
  by_cases hk : x.kind = 1
  · exact refPeer_pods x ea ec w hr hk
  · exact refPeer_blocks x ea ec w hr hk
theorem rulOk_split (r : DRule) (h1 : (r.peers.length : Int) ≤ 2) (h2 : (r.ports.length : Int) ≤ 2) : rulOk r = (r.peers.all peerOk && r.ports.all prtOk) := by simp [rulOk, few, h1, h2]
theorem rulOk_many (r : DRule) (h : ¬ ((r.peers.length : Int) ≤ 2) ∨ ¬ ((r.ports.length : Int) ≤ 2)) : rulOk r = false := by
  rcases h with h | h <;> simp [rulOk, few, h]
set_option maxRecDepth 100000 in
set_option maxHeartbeats 8000000 in
theorem refRules_any (l : List DRule) (a : Option Addr) (cap : Nat) (way : Bool) (w : World) (hr : rdRules w.heap.size w a l) :
    Calls Tryz.prog 138 #[.slice a l.length cap, .bool way] w fun e w' => e = .returned (.bool (rulesOk l way)) ∧ Below w.heap.size w w' := by
  have HR := hid hr
  have hlen := hr.1
  clear hr
  by_cases hl : ¬ (l.length : Int) ≤ 2
  · have HF := hid (show rulesOk l way = false by simp [rulesOk, few, hl])
    go_enter Tryz.func138, Tryz.ntmps138
    go_wp2
    go_ret
    exact ⟨ret_bool (by rw [HF.out]), bel⟩
  have hl := Decidable.not_not.1 hl
  by_cases hw : way = false ∧ 0 < l.length
  · obtain ⟨rfl, h0⟩ := hw
    have HF := hid (show rulesOk l false = false by
      have : ¬ l.length = 0 := by omega
      simp [rulesOk, this])
    go_enter Tryz.func138, Tryz.ntmps138
    go_wp2
    go_ret
    exact ⟨ret_bool (by rw [HF.out]), bel⟩
  have HF := hid (show rulesOk l way = l.all rulOk by
    have h2 : (way || decide (l.length = 0)) = true := by
      cases way
      · have : l.length = 0 := by
          rcases Nat.eq_zero_or_pos l.length with h | h
          · exact h
          · exact absurd ⟨rfl, h⟩ hw
        simp [this]
      · rfl
    rw [rulesOk, h2, few]
    simp [hl])
  have hw2 : way = false → (l.length : Int) = 0 := fun h => by
    rcases Nat.eq_zero_or_pos l.length with h' | h'
    · omega
    · exact absurd ⟨h, h'⟩ hw
  clear hw
  have key : Calls Tryz.prog 138 #[.slice a l.length cap, .bool way] w fun e w' => e = .returned (.bool (l.all rulOk)) ∧ Below w.heap.size w w' := by
    cases way
    · have hw3 := hw2 rfl
      clear hw2 HF
      go_enter Tryz.func138, Tryz.ntmps138
      go_wp2
      go_loopw [5] (fun i wr => ∃ k : Nat, k ≤ l.length ∧ i = .int .i64 k ∧ (l.take k).all rulOk = true ∧ Below w.heap.size w wr) (fun i _ => l.length - (intOf i).toNat)
      case atStart => exact ⟨0, Nat.zero_le _, rfl, rfl, Below.refl _ _⟩
      case round =>
        obtain ⟨k, hk, rfl, hall, hbw⟩ := hrel
        have HA := hid hall
        clear hall
        have hk2 : ¬ k < l.length := by omega
        go_wp2
        go_ret
        have := HA.out
        rw [List.take_of_length_le (by omega)] at this
        exact ⟨ret_bool (by rw [this]), hbw⟩
    · clear hw2 HF
      go_enter Tryz.func138, Tryz.ntmps138
      go_wp2
      go_loopw [5] (fun i wr => ∃ k : Nat, k ≤ l.length ∧ i = .int .i64 k ∧ (l.take k).all rulOk = true ∧ Below w.heap.size w wr) (fun i _ => l.length - (intOf i).toNat)
      case atStart => exact ⟨0, Nat.zero_le _, rfl, rfl, Below.refl _ _⟩
      case round =>
        obtain ⟨k, hk, rfl, hall, hbw⟩ := hrel
        have HA := hid hall
        clear hall
        by_cases hlt : k < l.length
        · obtain ⟨x, hxk⟩ : ∃ x, l[k]? = some x := ⟨l[k], by simp [hlt]⟩
          have HX := hid hxk
          clear hxk
          obtain ⟨b, off, rfl, hb, ⟨pa, pc, c0, hrp⟩, qa, qc, c1, hrq⟩ := HR.out.2 k x HX.out
          have HP := hid hrp
          have HQ := hid hrq
          have hlp := hrp.1
          have hlq := hrq.1
          have d0 := cell_to c0 hbw
          have d1 := cell_to c1 hbw
          by_cases hm : ¬ (x.peers.length : Int) ≤ 2
          · have HG := hid (rulOk_many x (Or.inl hm))
            clear hrp hrq
            go_wp2
            go_ret
            exact ⟨ret_bool (by rw [all_false HX.out HG.out]), hbw⟩
          have hm := Decidable.not_not.1 hm
          by_cases hn : ¬ (x.ports.length : Int) ≤ 2
          · have HG := hid (rulOk_many x (Or.inr hn))
            clear hrp hrq
            go_wp2
            go_ret
            exact ⟨ret_bool (by rw [all_false HX.out HG.out]), hbw⟩
          have hn := Decidable.not_not.1 hn
          have HG := hid (rulOk_split x hm hn)
          clear hrp hrq
          obtain ⟨wa, hwa⟩ : ∃ wa, wa = wr := ⟨_, rfl⟩
          subst hwa
          go_wp2
          go_loopw [6] (fun i wr => ∃ j : Nat, j ≤ x.peers.length ∧ i = .int .i64 j ∧ (x.peers.take j).all peerOk = true ∧ Below wa.heap.size wa wr) (fun i _ => x.peers.length - (intOf i).toNat)
          case atStart => exact ⟨0, Nat.zero_le _, rfl, rfl, Below.refl _ _⟩
          case round =>
            obtain ⟨j, hj, rfl, hall, hbv⟩ := hrel
            have HB := hid hall
            clear hall
            have hC : Below w.heap.size w wr := Ext.trans hbw hbv
            have e0 := cell_to d0 hbv
            have e1 := cell_to d1 hbv
            by_cases hlt2 : j < x.peers.length
            · obtain ⟨y, hyk⟩ : ∃ y, x.peers[j]? = some y := ⟨x.peers[j], by simp [hlt2]⟩
              have HY := hid hyk
              clear hyk
              obtain ⟨b2, off2, rfl, hb2, f0, f1, f2, f3, f4, f5, ea, ec, f6, hre⟩ := HP.out.2 j y HY.out
              have g0 := cell_to f0 hC
              have g1 := cell_to f1 hC
              have g2 := cell_to f2 hC
              have g3 := cell_to f3 hC
              have g4 := cell_to f4 hC
              have g5 := cell_to f5 hC
              have g6 := cell_to f6 hC
              have HE := hid hre
              clear f0 f1 f2 f3 f4 f5 f6 hre
              cases hy : peerOk y
              · go_wp2_with (go_at_call 166; refine (refPeer_any y _ _ _ (rdBlks.to HE.out bel)).mono ?_; rintro e w1 ⟨rfl, hb1⟩; obtain ⟨hc1, hf1⟩ := bcell hb1; have hz1 := hb_lt hb1)
                go_ret
                exact ⟨ret_bool (by rw [all_false HX.out (by rw [HG.out, all_false HY.out hy]; rfl)]), Ext.trans hC hb1⟩
              · go_wp2_with (go_at_call 166; refine (refPeer_any y _ _ _ (rdBlks.to HE.out bel)).mono ?_; rintro e w1 ⟨rfl, hb1⟩; obtain ⟨hc1, hf1⟩ := bcell hb1; have hz1 := hb_lt hb1)
                exact ⟨⟨j + 1, by omega, by go_num, take_all HY.out HB.out hy, Ext.trans hbv hb1⟩, by simp [intOf]; omega⟩
            · have HB2 := hid (show x.peers.all peerOk = true by have := HB.out; rwa [List.take_of_length_le (by omega)] at this)
              obtain ⟨wb, hwb⟩ : ∃ wb, wb = wr := ⟨_, rfl⟩
              subst hwb
              go_wp2
              go_loopw [8] (fun i wr => ∃ t : Nat, t ≤ x.ports.length ∧ i = .int .i64 t ∧ (x.ports.take t).all prtOk = true ∧ Below wb.heap.size wb wr) (fun i _ => x.ports.length - (intOf i).toNat)
              case atStart => exact ⟨0, Nat.zero_le _, rfl, rfl, Below.refl _ _⟩
              case round =>
                obtain ⟨t, ht, rfl, hall, hbu⟩ := hrel
                have HD := hid hall
                clear hall
                have hD : Below w.heap.size w wr := Ext.trans hC hbu
                have s1 := cell_to e1 hbu
                by_cases hlt3 : t < x.ports.length
                · obtain ⟨y, hyk⟩ : ∃ y, x.ports[t]? = some y := ⟨x.ports[t], by simp [hlt3]⟩
                  have HY := hid hyk
                  clear hyk
                  obtain ⟨b2, off2, rfl, hb2, f0, f1, f2⟩ := HQ.out.2 t y HY.out
                  have g0 := cell_to f0 hD
                  have g1 := cell_to f1 hD
                  have g2 := cell_to f2 hD
                  clear f0 f1 f2
                  cases hy : prtOk y
                  · go_wp2_with (go_at_call 143; refine (refPort_any y _).mono ?_; rintro e w1 ⟨rfl, hb1⟩; obtain ⟨hc1, hf1⟩ := bcell hb1; have hz1 := hb_lt hb1)
                    go_ret
                    exact ⟨ret_bool (by rw [all_false HX.out (by rw [HG.out, HB2.out, all_false HY.out hy]; rfl)]), Ext.trans hD hb1⟩
                  · go_wp2_with (go_at_call 143; refine (refPort_any y _).mono ?_; rintro e w1 ⟨rfl, hb1⟩; obtain ⟨hc1, hf1⟩ := bcell hb1; have hz1 := hb_lt hb1)
                    exact ⟨⟨t + 1, by omega, by go_num, take_all HY.out HD.out hy, Ext.trans hbu hb1⟩, by simp [intOf]; omega⟩
                · have HD2 := hid (show x.ports.all prtOk = true by have := HD.out; rwa [List.take_of_length_le (by omega)] at this)
                  go_wp2
                  exact ⟨⟨k + 1, by omega, by go_num, take_all HX.out HA.out (by rw [HG.out, HB2.out, HD2.out]; rfl), hD⟩, by simp [intOf]; omega⟩
        · go_wp2
          go_ret
          have := HA.out
          rw [List.take_of_length_le (by omega)] at this
          exact ⟨ret_bool (by rw [this]), hbw⟩
  refine key.mono ?_
  rintro e w' ⟨rfl, hb⟩
  exact ⟨ret_bool (by rw [HF.out]), hb⟩
end Go.Proofs.YtmkjlhplgcifiaaGreat
