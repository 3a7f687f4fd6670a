/-
  Rules and policies: when they are right, to whom they apply, what they let go.
  Rules and policies: what fits, what applies, what is let go.
  Rules and policies: what fits, what applies, what is let go.
  The document's answer: when a peer, a rule, a policy is right.
  The document's answer: when rules and a policy are right.
  The document's answer: when a policy is right.
-/
import Derived.Test.YtmkjlhplgcifiaaGreatK05
import Derived.Test.YtmkjlhplgcifiaaGreatK04
namespace Go.Proofs.YtmkjlhplgcifiaaGreat
open Go.ChangeShapes Go.WideShapes Go.ChangeAt Go.RowKit
attribute [local simp] World.cell?_grow
attribute [local go_sem] World.cell?_grow
attribute [local go_sem] eqg_blk std_blk eqg_pod std_pod eqg_sel std_sel eqg_prt std_prt
attribute [local go_sem ↓] eql_blk eql_sel neq_sel eql_prt eql_pod
attribute [local go_sem ↓] met_in1 met_in2 met_re1 met_re2
set_option linter.unusedVariables false
set_option linter.unusedSimpArgs false
theorem met_has1 (c0 c1 c2 c3 c4 c5 c6 : Value) (w : World) : (method 379 227 (.agg #[c0, c1, c2, c3, c4, c5, c6]) "palisade/peer.has").run Tryz.prog w = .ok (223, .agg #[c0, c1, c2, c3, c4, c5, c6]) w := by kernel_rfl
theorem met_has2 (c0 c1 c2 c3 c4 c5 c6 : Value) (w : World) : (method 379 228 (.agg #[c0, c1, c2, c3, c4, c5, c6]) "palisade/peer.has").run Tryz.prog w = .ok (231, .agg #[c0, c1, c2, c3, c4, c5, c6]) w := by kernel_rfl
attribute [local go_sem ↓] met_has1 met_has2
theorem any_podAt (l : List DPod) (ip : Int) (q : DPod → Bool) (h : l.Pairwise fun a b => a.ip ≠ b.ip) :
    (l.any fun p => decide (p.ip = ip) && q p) = (match podAt l ip with | none => false | some p => q p) := by
  induction l with
  | nil => rfl
  | cons a t ih =>
    obtain ⟨h1, h2⟩ := List.pairwise_cons.1 h
    have ih := ih h2
    unfold podAt at *
    by_cases e : a.ip = ip
    · have : (t.any fun p => decide (p.ip = ip) && q p) = false := by
        rw [Bool.eq_false_iff]
        intro h3
        obtain ⟨p, hp, hq⟩ := List.any_eq_true.1 h3
        simp only [Bool.and_eq_true, decide_eq_true_eq] at hq
        exact h1 p hp (by rw [e, hq.1])
      simp [List.find?_cons, e, this]
    · simp only [List.any_cons, List.find?_cons, decide_eq_false e, Bool.false_and, Bool.false_or]
      exact ih
theorem peerHas_pods (pods : List DPod) (space ip : Int) (x : DPeer) (hk : x.kind = 1) (ho : podsOk pods) (h0 : 0 ≤ space) (h1 : space ≤ 3) :
    (pods.any fun p => decide (p.ip = ip) && (spaceBit (sfrom x.spaces space) p.space && sels x.need x.ban p.labels)) = peerHas pods space ip x := by
  rw [any_podAt _ _ _ ho.2, peerHas, if_neg (by omega)]
  cases hp : podAt pods ip with
  | none => rfl
  | some p =>
    have hm : p ∈ pods := List.mem_of_find?_eq_some hp
    have hb := (podOk_true.1 (ho.1 p hm)).2.2.1
    show (spaceBit (sfrom x.spaces space) p.space && sels x.need x.ban p.labels) = _
    rw [Bool.and_comm]
    congr 1
    unfold sfrom
    split
    · exact own_eq space p.space h0 h1 hb.1 hb.2
    · rfl
theorem peerOk_pods' {x : DPeer} (h : peerOk x = true) (hk : x.kind = 1) : selOk x.need x.ban = true ∧ 0 ≤ x.spaces ∧ x.spaces ≤ 15 := by
  rw [peerOk, if_pos hk] at h
  simp only [Bool.and_eq_true, btw, decide_eq_true_eq] at h
  exact ⟨h.1.1.1.1, h.1.1.1.2⟩
theorem peerOk_blocks' {x : DPeer} (h : peerOk x = true) (hk : ¬ x.kind = 1) : x.kind = 2 ∧ blkOk ⟨x.base, x.bits⟩ = true ∧ x.exc.all blkOk = true := by
  rw [peerOk, if_neg hk] at h
  simp only [Bool.and_eq_true, few, decide_eq_true_eq] at h
  exact ⟨h.1.1.1.1.1, h.1.1.1.1.2, h.2.2⟩
set_option maxRecDepth 100000 in
theorem peerHas_any (x : DPeer) (ea : Option Addr) (ec : Nat) (ip space : Int) (sa : Option Addr) (pods : List DPod) (sc : Nat) (w : World) (hr : rdBlks w.heap.size w ea x.exc) (hp : rdPods w.heap.size w sa pods) (ho : podsOk pods)
    (hx : peerOk x = true) (i0 : 0 ≤ ip) (i1 : ip ≤ 4294967295) (h0 : 0 ≤ space) (h1 : space ≤ 3) :
    Calls Tryz.prog 157 #[.agg #[.int .i64 x.kind, .int .i64 x.need, .int .i64 x.ban, .int .i64 x.spaces, .int .i64 x.base, .int .i64 x.bits, .slice ea x.exc.length ec], .int .i64 ip, .agg #[.int .i64 space, .slice sa pods.length sc]] w
      fun e w' => e = .returned (.bool (peerHas pods space ip x)) ∧ Below w.heap.size w w' := by
  have HR := hid hr
  have HP := hid hp
  have HO := hid ho
  by_cases hk : x.kind = 1
  · obtain ⟨hs, hs0, hs1⟩ := peerOk_pods' hx hk
    have HS := hid hs
    have HF := hid (peerHas_pods pods space ip x hk ho h0 h1)
    have HK := hid hk
    clear hr hp ho hx hk hs
    go_enter Tryz.func157, Tryz.ntmps157
    go_wp2_with (first
      | (go_at_call 172; refine (kindOf_pods _ _ _ _ HK.out).mono ?_; rintro e w1 ⟨rfl, hb1⟩; obtain ⟨hc1, hf1⟩ := bcell hb1; have hz1 := hb_lt hb1)
      | (go_at_call 223; refine (hasPods_any x _ _ _ _ _ _ _ _ _ (rdPods.to HP.out (by repeat (first | exact Below.refl _ _ | assumption | apply Ext.alloc | apply Ext.drewN | apply Ext.drew | refine Ext.trans ?_ (by assumption)))) HO.out HS.out hs0 hs1 h0 h1).mono ?_; rw [HF.out]; rintro e w1 ⟨rfl, hb1⟩; obtain ⟨hc1, hf1⟩ := bcell hb1; have hz1 := hb_lt hb1))
    go_ret
    exact ⟨rfl, (by repeat (first | exact Below.refl _ _ | assumption | apply Ext.alloc | apply Ext.drewN | apply Ext.drew | refine Ext.trans ?_ (by assumption)))⟩
  · obtain ⟨hk2, hb, he⟩ := peerOk_blocks' hx hk
    have HS := hid hb
    have HE := hid he
    have HF := hid (show (blkHas ip ⟨x.base, x.bits⟩ && !(x.exc.any (blkHas ip))) = peerHas pods space ip x by rw [peerHas, if_pos hk2])
    have HK := hid hk2
    clear hr hp ho hx hk hk2 hb he
    go_enter Tryz.func157, Tryz.ntmps157
    go_wp2_with (first
      | (go_at_call 172; refine (kindOf_blocks _ _ _ _ HK.out).mono ?_; rintro e w1 ⟨rfl, hb1⟩; obtain ⟨hc1, hf1⟩ := bcell hb1; have hz1 := hb_lt hb1)
      | (go_at_call 231; refine (hasBlocks_any x _ _ _ _ _ _ _ _ (rdBlks.to HR.out (by repeat (first | exact Below.refl _ _ | assumption | apply Ext.alloc | apply Ext.drewN | apply Ext.drew | refine Ext.trans ?_ (by assumption)))) HS.out HE.out i0 i1).mono ?_; rw [HF.out]; rintro e w1 ⟨rfl, hb1⟩; obtain ⟨hc1, hf1⟩ := bcell hb1; have hz1 := hb_lt hb1))
    go_ret
    exact ⟨rfl, (by repeat (first | exact Below.refl _ _ | assumption | apply Ext.alloc | apply Ext.drewN | apply Ext.drew | refine Ext.trans ?_ (by assumption)))⟩
theorem fitsClo1 (x : DPeer) (ea : Option Addr) (ec : Nat) (far space : Int) (sa : Option Addr) (pods : List DPod) (sc : Nat) (fb nb : Nat) (w : World) (hr : rdBlks w.heap.size w ea x.exc) (hp : rdPods w.heap.size w sa pods) (ho : podsOk pods)
    (hx : peerOk x = true) (i0 : 0 ≤ far) (i1 : far ≤ 4294967295) (h0 : 0 ≤ space) (h1 : space ≤ 3)
    (c1 : w.cell? ⟨fb, 0, none⟩ = some (.int .i64 far)) (c2 : w.cell? ⟨nb, 0, none⟩ = some (.int .i64 space)) (c3 : w.cell? ⟨nb, 1, none⟩ = some (.slice sa pods.length sc)) :
    Calls Tryz.prog 156 #[.agg #[.int .i64 x.kind, .int .i64 x.need, .int .i64 x.ban, .int .i64 x.spaces, .int .i64 x.base, .int .i64 x.bits, .slice ea x.exc.length ec], .pointer (some ⟨fb, 0, none⟩), .pointer (some ⟨nb, 0, none⟩)] w
      fun e w' => e = .returned (.bool (peerHas pods space far x)) ∧ Below w.heap.size w w' := by
  have HR := hid hr
  have HP := hid hp
  have HO := hid ho
  have HX := hid hx
  have l1 := cell_lt c1
  have l2 := cell_lt c2
  clear hr hp ho hx
  go_enter Tryz.func156, Tryz.ntmps156
  go_wp2_with (go_at_call 157; refine (peerHas_any x _ _ _ _ _ _ _ _ (rdBlks.to HR.out (by repeat (first | exact Below.refl _ _ | assumption | apply Ext.alloc | apply Ext.drewN | apply Ext.drew | refine Ext.trans ?_ (by assumption)))) (rdPods.to HP.out (by repeat (first | exact Below.refl _ _ | assumption | apply Ext.alloc | apply Ext.drewN | apply Ext.drew | refine Ext.trans ?_ (by assumption)))) HO.out HX.out i0 i1 h0 h1).mono ?_; rintro e w1 ⟨rfl, hb1⟩; obtain ⟨hc1, hf1⟩ := bcell hb1; have hz1 := hb_lt hb1)
  go_ret
  exact ⟨rfl, (by repeat (first | exact Below.refl _ _ | assumption | apply Ext.alloc | apply Ext.drewN | apply Ext.drew | refine Ext.trans ?_ (by assumption)))⟩
theorem fitsClo2 (x : DPort) (k : DPkt) (kb : Nat) (w : World) (c0 : w.cell? ⟨kb, 0, none⟩ = some (.int .i64 k.src)) (c1 : w.cell? ⟨kb, 1, none⟩ = some (.int .i64 k.dst)) (c2 : w.cell? ⟨kb, 2, none⟩ = some (.int .i64 k.proto)) (c3 : w.cell? ⟨kb, 3, none⟩ = some (.int .i64 k.port)) :
    Calls Tryz.prog 159 #[.agg #[.int .i64 x.proto, .int .i64 x.lo, .int .i64 x.hi], .pointer (some ⟨kb, 0, none⟩)] w
      fun e w' => e = .returned (.bool (prtFits k x)) ∧ Below w.heap.size w w' := by
  have l1 := cell_lt c1
  go_enter Tryz.func159, Tryz.ntmps159
  go_wp2_with (go_at_call 105; refine (prtFits_any x k _).mono ?_; rintro e w1 ⟨rfl, hb1⟩; obtain ⟨hc1, hf1⟩ := bcell hb1; have hz1 := hb_lt hb1)
  go_ret
  exact ⟨rfl, (by repeat (first | exact Below.refl _ _ | assumption | apply Ext.alloc | apply Ext.drewN | apply Ext.drew | refine Ext.trans ?_ (by assumption)))⟩
theorem ruleRight_any (x : DRule) (pa qa : Option Addr) (pc qc : Nat) (w : World) (hp : rdPeers w.heap.size w pa x.peers) (hq : rdPorts w.heap.size w qa x.ports) :
    Calls Tryz.prog 121 #[.agg #[.slice pa x.peers.length pc, .slice qa x.ports.length qc]] w fun e w' => e = .returned (.bool (rulOk x)) ∧ Below w.heap.size w w' := by
  have HP := hid hp
  have HQ := hid hq
  clear hp hq
  go_enter Tryz.func121, Tryz.ntmps121
  cases hq1 : few x.peers 2 peerOk
  · go_wp2_with (first
      | (go_at_call 150; refine (fewPeer peerOk _ _ _ _ _ (rdPeers.to HP.out (by repeat (first | exact Below.refl _ _ | assumption | apply Ext.alloc | apply Ext.drewN | apply Ext.drew | refine Ext.trans ?_ (by assumption)))) (fun x ea ec w1 _ _ hr => peerRight_any x ea ec w1 hr)).mono ?_; rintro e w1 ⟨rfl, hb1⟩; obtain ⟨hc1, hf1⟩ := bcell hb1; have hz1 := hb_lt hb1)
      | (go_at_call 152; refine (fewPort prtOk _ _ _ _ _ (rdPorts.to HQ.out (by repeat (first | exact Below.refl _ _ | assumption | apply Ext.alloc | apply Ext.drewN | apply Ext.drew | refine Ext.trans ?_ (by assumption)))) (fun x w1 _ _ => portRight_any x w1)).mono ?_; rintro e w1 ⟨rfl, hb1⟩; obtain ⟨hc1, hf1⟩ := bcell hb1; have hz1 := hb_lt hb1))
    go_ret
    exact ⟨by simp [rulOk, hq1], (by repeat (first | exact Below.refl _ _ | assumption | apply Ext.alloc | apply Ext.drewN | apply Ext.drew | refine Ext.trans ?_ (by assumption)))⟩
  cases hq2 : few x.ports 2 prtOk
  · go_wp2_with (first
      | (go_at_call 150; refine (fewPeer peerOk _ _ _ _ _ (rdPeers.to HP.out (by repeat (first | exact Below.refl _ _ | assumption | apply Ext.alloc | apply Ext.drewN | apply Ext.drew | refine Ext.trans ?_ (by assumption)))) (fun x ea ec w1 _ _ hr => peerRight_any x ea ec w1 hr)).mono ?_; rintro e w1 ⟨rfl, hb1⟩; obtain ⟨hc1, hf1⟩ := bcell hb1; have hz1 := hb_lt hb1)
      | (go_at_call 152; refine (fewPort prtOk _ _ _ _ _ (rdPorts.to HQ.out (by repeat (first | exact Below.refl _ _ | assumption | apply Ext.alloc | apply Ext.drewN | apply Ext.drew | refine Ext.trans ?_ (by assumption)))) (fun x w1 _ _ => portRight_any x w1)).mono ?_; rintro e w1 ⟨rfl, hb1⟩; obtain ⟨hc1, hf1⟩ := bcell hb1; have hz1 := hb_lt hb1))
    go_ret
    exact ⟨by simp [rulOk, hq1, hq2], (by repeat (first | exact Below.refl _ _ | assumption | apply Ext.alloc | apply Ext.drewN | apply Ext.drew | refine Ext.trans ?_ (by assumption)))⟩
  go_wp2_with (first
    | (go_at_call 150; refine (fewPeer peerOk _ _ _ _ _ (rdPeers.to HP.out (by repeat (first | exact Below.refl _ _ | assumption | apply Ext.alloc | apply Ext.drewN | apply Ext.drew | refine Ext.trans ?_ (by assumption)))) (fun x ea ec w1 _ _ hr => peerRight_any x ea ec w1 hr)).mono ?_; rintro e w1 ⟨rfl, hb1⟩; obtain ⟨hc1, hf1⟩ := bcell hb1; have hz1 := hb_lt hb1)
    | (go_at_call 152; refine (fewPort prtOk _ _ _ _ _ (rdPorts.to HQ.out (by repeat (first | exact Below.refl _ _ | assumption | apply Ext.alloc | apply Ext.drewN | apply Ext.drew | refine Ext.trans ?_ (by assumption)))) (fun x w1 _ _ => portRight_any x w1)).mono ?_; rintro e w1 ⟨rfl, hb1⟩; obtain ⟨hc1, hf1⟩ := bcell hb1; have hz1 := hb_lt hb1))
  go_ret
  exact ⟨by simp [rulOk, hq1, hq2], (by repeat (first | exact Below.refl _ _ | assumption | apply Ext.alloc | apply Ext.drewN | apply Ext.drew | refine Ext.trans ?_ (by assumption)))⟩
end Go.Proofs.YtmkjlhplgcifiaaGreat
namespace Go.Proofs.YtmkjlhplgcifiaaGreat
open Go.ChangeShapes Go.WideShapes Go.ChangeAt Go.RowKit
attribute [local simp] World.cell?_grow
attribute [local go_sem] World.cell?_grow
attribute [local go_sem] eqg_blk std_blk eqg_pod std_pod eqg_sel std_sel eqg_prt std_prt
attribute [local go_sem ↓] eql_blk eql_sel neq_sel eql_prt eql_pod
attribute [local go_sem ↓] met_in1 met_in2 met_re1 met_re2
attribute [local go_sem ↓] met_has1 met_has2
set_option linter.unusedVariables false
set_option linter.unusedSimpArgs false
theorem rulOk_true {r : DRule} (h : rulOk r = true) : (∀ x ∈ r.peers, peerOk x = true) ∧ ∀ x ∈ r.ports, prtOk x = true := by
  simp only [rulOk, few, Bool.and_eq_true, List.all_eq_true] at h
  exact ⟨h.1.2, h.2.2⟩
set_option maxHeartbeats 1000000 in
theorem ruleFits_any (r : DRule) (pa qa : Option Addr) (pc qc : Nat) (space : Int) (sa : Option Addr) (pods : List DPod) (sc : Nat) (far : Int) (k : DPkt) (w : World)
    (hp : rdPeers w.heap.size w pa r.peers) (hq : rdPorts w.heap.size w qa r.ports) (hd : rdPods w.heap.size w sa pods) (ho : podsOk pods) (hx : rulOk r = true) (i0 : 0 ≤ far) (i1 : far ≤ 4294967295) (h0 : 0 ≤ space) (h1 : space ≤ 3) :
    Calls Tryz.prog 129 #[.agg #[.slice pa r.peers.length pc, .slice qa r.ports.length qc], .agg #[.int .i64 space, .slice sa pods.length sc], .int .i64 far, .agg #[.int .i64 k.src, .int .i64 k.dst, .int .i64 k.proto, .int .i64 k.port]] w
      fun e w' => e = .returned (.bool (ruleFits pods space k far r)) ∧ Below w.heap.size w w' := by
  have HP := hid hp
  have HQ := hid hq
  have HD := hid hd
  have HO := hid ho
  have HX := hid (rulOk_true hx)
  have hmf := mkFunc
  clear hp hq hd ho hx
  cases hq1 : eoa r.peers (peerHas pods space far)
  · have HF := hid (show ruleFits pods space k far r = false by rw [ruleFits, hq1]; rfl)
    go_enter Tryz.func129, Tryz.ntmps129
    go_wp2_with (go_at_call 155; refine (eoaPeer (peerHas pods space far) _ _ _ _ _ _ (rdPeers.to HP.out (by repeat (first | exact Below.refl _ _ | assumption | apply Ext.alloc | apply Ext.drewN | apply Ext.drew | refine Ext.trans ?_ (by assumption)))) (fun x ea ec w2 hx hz hr => fitsClo1 x ea ec far space _ pods sc _ _ w2 hr (rdPods.to (rdPods.to HD.out (by repeat (first | exact Below.refl _ _ | assumption | apply Ext.alloc | apply Ext.drewN | apply Ext.drew | refine Ext.trans ?_ (by assumption)))) hz) HO.out (HX.out.1 x hx) i0 i1 h0 h1 (cell_to (by simp [go_sem]) hz) (cell_to (by simp [go_sem]) hz) (cell_to (by simp [go_sem]) hz))).mono ?_; rintro e w1 ⟨rfl, hb1⟩; obtain ⟨hc1, hf1⟩ := bcell hb1; have hz1 := hb_lt hb1)
    go_ret
    exact ⟨ret_bool (by rw [HF.out]), (by repeat (first | exact Below.refl _ _ | assumption | apply Ext.alloc | apply Ext.drewN | apply Ext.drew | refine Ext.trans ?_ (by assumption)))⟩
  · have HF := hid (show ruleFits pods space k far r = eoa r.ports (prtFits k) by rw [ruleFits, hq1]; rfl)
    go_enter Tryz.func129, Tryz.ntmps129
    go_wp2_with (first
      | (go_at_call 155; refine (eoaPeer (peerHas pods space far) _ _ _ _ _ _ (rdPeers.to HP.out (by repeat (first | exact Below.refl _ _ | assumption | apply Ext.alloc | apply Ext.drewN | apply Ext.drew | refine Ext.trans ?_ (by assumption)))) (fun x ea ec w2 hx hz hr => fitsClo1 x ea ec far space _ pods sc _ _ w2 hr (rdPods.to (rdPods.to HD.out (by repeat (first | exact Below.refl _ _ | assumption | apply Ext.alloc | apply Ext.drewN | apply Ext.drew | refine Ext.trans ?_ (by assumption)))) hz) HO.out (HX.out.1 x hx) i0 i1 h0 h1 (cell_to (by simp [go_sem]) hz) (cell_to (by simp [go_sem]) hz) (cell_to (by simp [go_sem]) hz))).mono ?_; rintro e w1 ⟨rfl, hb1⟩; obtain ⟨hc1, hf1⟩ := bcell hb1; have hz1 := hb_lt hb1)
      | (go_at_call 158; refine (eoaPort (prtFits k) _ _ _ _ _ (rdPorts.to HQ.out (by repeat (first | exact Below.refl _ _ | assumption | apply Ext.alloc | apply Ext.drewN | apply Ext.drew | refine Ext.trans ?_ (by assumption)))) (fun x w2 hx hz => fitsClo2 x k _ w2 (cell_to (cell_to (by simp [go_sem]) hb1) hz) (cell_to (cell_to (by simp [go_sem]) hb1) hz) (cell_to (cell_to (by simp [go_sem]) hb1) hz) (cell_to (cell_to (by simp [go_sem]) hb1) hz))).mono ?_; rintro e w2 ⟨rfl, hb2⟩; obtain ⟨hc2, hf2⟩ := bcell hb2; have hz2 := hb_lt hb2))
    go_ret
    exact ⟨ret_bool (by rw [HF.out]), (by repeat (first | exact Below.refl _ _ | assumption | apply Ext.alloc | apply Ext.drewN | apply Ext.drew | refine Ext.trans ?_ (by assumption)))⟩
theorem goClo (r : DRule) (pa qa : Option Addr) (pc qc : Nat) (space : Int) (sa : Option Addr) (pods : List DPod) (sc : Nat) (far : Int) (k : DPkt) (nb fb kb : Nat) (w : World)
    (hp : rdPeers w.heap.size w pa r.peers) (hq : rdPorts w.heap.size w qa r.ports) (hd : rdPods w.heap.size w sa pods) (ho : podsOk pods) (hx : rulOk r = true) (i0 : 0 ≤ far) (i1 : far ≤ 4294967295) (h0 : 0 ≤ space) (h1 : space ≤ 3)
    (c1 : w.cell? ⟨fb, 0, none⟩ = some (.int .i64 far)) (c2 : w.cell? ⟨nb, 0, none⟩ = some (.int .i64 space)) (c3 : w.cell? ⟨nb, 1, none⟩ = some (.slice sa pods.length sc))
    (k0 : w.cell? ⟨kb, 0, none⟩ = some (.int .i64 k.src)) (k1 : w.cell? ⟨kb, 1, none⟩ = some (.int .i64 k.dst)) (k2 : w.cell? ⟨kb, 2, none⟩ = some (.int .i64 k.proto)) (k3 : w.cell? ⟨kb, 3, none⟩ = some (.int .i64 k.port)) :
    Calls Tryz.prog 128 #[.agg #[.slice pa r.peers.length pc, .slice qa r.ports.length qc], .pointer (some ⟨nb, 0, none⟩), .pointer (some ⟨fb, 0, none⟩), .pointer (some ⟨kb, 0, none⟩)] w
      fun e w' => e = .returned (.bool (ruleFits pods space k far r)) ∧ Below w.heap.size w w' := by
  have HP := hid hp
  have HQ := hid hq
  have HD := hid hd
  have HO := hid ho
  have HX := hid hx
  have l1 := cell_lt c1
  have l2 := cell_lt c2
  have l3 := cell_lt k0
  clear hp hq hd ho hx
  go_enter Tryz.func128, Tryz.ntmps128
  go_wp2_with (go_at_call 129; refine (ruleFits_any r _ _ _ _ _ _ pods _ _ k _ (rdPeers.to HP.out (by repeat (first | exact Below.refl _ _ | assumption | apply Ext.alloc | apply Ext.drewN | apply Ext.drew | refine Ext.trans ?_ (by assumption)))) (rdPorts.to HQ.out (by repeat (first | exact Below.refl _ _ | assumption | apply Ext.alloc | apply Ext.drewN | apply Ext.drew | refine Ext.trans ?_ (by assumption)))) (rdPods.to HD.out (by repeat (first | exact Below.refl _ _ | assumption | apply Ext.alloc | apply Ext.drewN | apply Ext.drew | refine Ext.trans ?_ (by assumption)))) HO.out HX.out i0 i1 h0 h1).mono ?_; rintro e w1 ⟨rfl, hb1⟩; obtain ⟨hc1, hf1⟩ := bcell hb1; have hz1 := hb_lt hb1)
  go_ret
  exact ⟨rfl, (by repeat (first | exact Below.refl _ _ | assumption | apply Ext.alloc | apply Ext.drewN | apply Ext.drew | refine Ext.trans ?_ (by assumption)))⟩
end Go.Proofs.YtmkjlhplgcifiaaGreat
namespace Go.Proofs.YtmkjlhplgcifiaaGreat
open Go.ChangeShapes Go.WideShapes Go.ChangeAt Go.RowKit
attribute [local simp] World.cell?_grow
attribute [local go_sem] World.cell?_grow
attribute [local go_sem] eqg_blk std_blk eqg_pod std_pod eqg_sel std_sel eqg_prt std_prt
attribute [local go_sem ↓] eql_blk eql_sel neq_sel eql_prt eql_pod
attribute [local go_sem ↓] met_in1 met_in2 met_re1 met_re2
attribute [local go_sem ↓] met_has1 met_has2
set_option linter.unusedVariables false
set_option linter.unusedSimpArgs false
theorem few_way (l : List DRule) (b : Bool) : few l (if b then 2 else 0) rulOk = rulesOk l b := by
  unfold rulesOk few
  cases b
  · by_cases h : l.length = 0
    · simp [h]
    · have : ¬ ((l.length : Int) ≤ 0) := by omega
      simp [this, h]
  · simp
theorem polOk_most (p : DPol) (h : btw p.ways 1 3 = true) : polOk p = (btw p.space 0 3 && selOk p.need p.ban && few p.outs (most p.ways 1) rulOk && few p.ins (most p.ways 2) rulOk) := by
  have h' := btw_true.1 h
  have e1 : most p.ways 1 = if decide (p.ways % 2 = 1) then 2 else 0 := by
    unfold most
    by_cases h1 : p.ways % 2 = 1
    · rw [if_pos (by omega)]; simp [h1]
    · rw [if_neg (by omega)]; simp [h1]
  have e2 : most p.ways 2 = if decide (p.ways / 2 = 1) then 2 else 0 := by
    unfold most
    by_cases h1 : p.ways / 2 = 1
    · rw [if_pos (by omega)]; simp [h1]
    · rw [if_neg (by omega)]; simp [h1]
  rw [e1, e2, few_way, few_way, polOk, h]
  simp
set_option maxHeartbeats 1000000 in
theorem polRight_any (p : DPol) (oa ia : Option Addr) (oc ic : Nat) (w : World) (ho : rdRules w.heap.size w oa p.outs) (hi : rdRules w.heap.size w ia p.ins) :
    Calls Tryz.prog 91 #[.agg #[.int .i64 p.space, .int .i64 p.need, .int .i64 p.ban, .int .i64 p.ways, .slice oa p.outs.length oc, .slice ia p.ins.length ic]] w fun e w' => e = .returned (.bool (polOk p)) ∧ Below w.heap.size w w' := by
  have HO := hid ho
  have HI := hid hi
  clear ho hi
  have HM := hid (polOk_most p)
  go_enter Tryz.func91, Tryz.ntmps91
  cases hq1 : btw p.space 0 3
  · have HF := hid (show polOk p = false by rw [polOk, hq1]; rfl)
    go_wp2_with (first
      | (go_at_call 118; refine (mostRules_any _ _).mono ?_; rintro e w' ⟨rfl, rfl⟩)
      | (go_at_call 116; refine (space_any _ _).mono ?_; rintro e w' ⟨rfl, rfl⟩))
    go_ret
    exact ⟨ret_bool (by rw [HF.out]), (by repeat (first | exact Below.refl _ _ | assumption | apply Ext.alloc | apply Ext.drewN | apply Ext.drew | refine Ext.trans ?_ (by assumption)))⟩
  cases hq2 : selOk p.need p.ban
  · have HF := hid (show polOk p = false by rw [polOk, hq1, hq2]; rfl)
    go_wp2_with (first
      | (go_at_call 118; refine (mostRules_any _ _).mono ?_; rintro e w' ⟨rfl, rfl⟩)
      | (go_at_call 116; refine (space_any _ _).mono ?_; rintro e w' ⟨rfl, rfl⟩)
      | (go_at_call 119; refine (selRight_any _ _ _).mono ?_; rintro e w1 ⟨rfl, hb1⟩; obtain ⟨hc1, hf1⟩ := bcell hb1; have hz1 := hb_lt hb1))
    go_ret
    exact ⟨ret_bool (by rw [HF.out]), (by repeat (first | exact Below.refl _ _ | assumption | apply Ext.alloc | apply Ext.drewN | apply Ext.drew | refine Ext.trans ?_ (by assumption)))⟩
  cases hq3 : btw p.ways 1 3
  · have HF := hid (show polOk p = false by rw [polOk, hq1, hq2, hq3]; rfl)
    go_wp2_with (first
      | (go_at_call 118; refine (mostRules_any _ _).mono ?_; rintro e w' ⟨rfl, rfl⟩)
      | (go_at_call 116; refine (space_any _ _).mono ?_; rintro e w' ⟨rfl, rfl⟩)
      | (go_at_call 119; refine (selRight_any _ _ _).mono ?_; rintro e w1 ⟨rfl, hb1⟩; obtain ⟨hc1, hf1⟩ := bcell hb1; have hz1 := hb_lt hb1)
      | (go_at_call 63; refine (within_any _ _ _ _).mono ?_; rintro e w' ⟨rfl, rfl⟩))
    go_ret
    exact ⟨ret_bool (by rw [HF.out]), (by repeat (first | exact Below.refl _ _ | assumption | apply Ext.alloc | apply Ext.drewN | apply Ext.drew | refine Ext.trans ?_ (by assumption)))⟩
  cases hq4 : few p.outs (most p.ways 1) rulOk
  · have HF := hid (show polOk p = false by rw [HM.out hq3, hq1, hq2, hq4]; rfl)
    go_wp2_with (first
      | (go_at_call 118; refine (mostRules_any _ _).mono ?_; rintro e w' ⟨rfl, rfl⟩)
      | (go_at_call 116; refine (space_any _ _).mono ?_; rintro e w' ⟨rfl, rfl⟩)
      | (go_at_call 119; refine (selRight_any _ _ _).mono ?_; rintro e w1 ⟨rfl, hb1⟩; obtain ⟨hc1, hf1⟩ := bcell hb1; have hz1 := hb_lt hb1)
      | (go_at_call 63; refine (within_any _ _ _ _).mono ?_; rintro e w' ⟨rfl, rfl⟩)
      | (go_at_call 120; refine (fewRule rulOk _ _ p.outs _ _ (rdRules.to HO.out (by repeat (first | exact Below.refl _ _ | assumption | apply Ext.alloc | apply Ext.drewN | apply Ext.drew | refine Ext.trans ?_ (by assumption)))) (fun x pa qa pc qc w1 _ _ h1 h2 => ruleRight_any x pa qa pc qc w1 h1 h2)).mono ?_; rw [hq4]; rintro e w2 ⟨rfl, hb2⟩; obtain ⟨hc2, hf2⟩ := bcell hb2; have hz2 := hb_lt hb2))
    go_ret
    exact ⟨ret_bool (by rw [HF.out]), (by repeat (first | exact Below.refl _ _ | assumption | apply Ext.alloc | apply Ext.drewN | apply Ext.drew | refine Ext.trans ?_ (by assumption)))⟩
  have HF := hid (show polOk p = few p.ins (most p.ways 2) rulOk by rw [HM.out hq3, hq1, hq2, hq4]; rfl)
  go_wp2_with (first
    | (go_at_call 118; refine (mostRules_any _ _).mono ?_; rintro e w' ⟨rfl, rfl⟩)
    | (go_at_call 116; refine (space_any _ _).mono ?_; rintro e w' ⟨rfl, rfl⟩)
    | (go_at_call 119; refine (selRight_any _ _ _).mono ?_; rintro e w1 ⟨rfl, hb1⟩; obtain ⟨hc1, hf1⟩ := bcell hb1; have hz1 := hb_lt hb1)
    | (go_at_call 63; refine (within_any _ _ _ _).mono ?_; rintro e w' ⟨rfl, rfl⟩))
  go_at_call 120
  refine (fewRule rulOk _ _ p.outs _ _ (rdRules.to HO.out (by repeat (first | exact Below.refl _ _ | assumption | apply Ext.alloc | apply Ext.drewN | apply Ext.drew | refine Ext.trans ?_ (by assumption)))) (fun x pa qa pc qc w1 _ _ h1 h2 => ruleRight_any x pa qa pc qc w1 h1 h2)).mono ?_
  rw [hq4]
  rintro e w2 ⟨rfl, hb2⟩; obtain ⟨hc2, hf2⟩ := bcell hb2; have hz2 := hb_lt hb2
  go_wp2_with fail
  refine (fewRule rulOk _ _ p.ins _ _ (rdRules.to HI.out (by repeat (first | exact Below.refl _ _ | assumption | apply Ext.alloc | apply Ext.drewN | apply Ext.drew | refine Ext.trans ?_ (by assumption)))) (fun x pa qa pc qc w1 _ _ h1 h2 => ruleRight_any x pa qa pc qc w1 h1 h2)).mono ?_
  rintro e w3 ⟨rfl, hb3⟩; obtain ⟨hc3, hf3⟩ := bcell hb3; have hz3 := hb_lt hb3
  go_wp2
  go_ret
  exact ⟨ret_bool (by rw [HF.out]), (by repeat (first | exact Below.refl _ _ | assumption | apply Ext.alloc | apply Ext.drewN | apply Ext.drew | refine Ext.trans ?_ (by assumption)))⟩
end Go.Proofs.YtmkjlhplgcifiaaGreat
namespace Go.Proofs.YtmkjlhplgcifiaaGreat
open Go.ChangeShapes Go.WideShapes Go.ChangeAt Go.RowKit
attribute [local simp] World.cell?_grow
attribute [local go_sem] World.cell?_grow
attribute [local simp] World.cell?_alloc_there
attribute [local go_sem] World.cell?_alloc_there
attribute [local go_sem] eqg_blk std_blk eqg_pod std_pod eqg_sel std_sel eqg_prt std_prt
attribute [local go_sem ↓] eql_blk eql_sel neq_sel eql_prt eql_pod
attribute [local go_sem ↓] met_in1 met_in2 met_re1 met_re2
attribute [local go_sem ↓] met_has1 met_has2
set_option linter.unusedVariables false
set_option linter.unusedSimpArgs false
end Go.Proofs.YtmkjlhplgcifiaaGreat
namespace Go.Proofs.YtmkjlhplgcifiaaGreat
open Go.ChangeShapes Go.WideShapes Go.ChangeAt Go.RowKit
attribute [local simp] World.cell?_grow
attribute [local go_sem] World.cell?_grow
attribute [local simp] World.cell?_alloc_there
attribute [local go_sem] World.cell?_alloc_there
attribute [local go_sem] eqg_blk std_blk eqg_pod std_pod eqg_sel std_sel eqg_prt std_prt
attribute [local go_sem ↓] eql_blk eql_sel neq_sel eql_prt eql_pod
attribute [local go_sem ↓] met_in1 met_in2 met_re1 met_re2
attribute [local go_sem ↓] met_has1 met_has2
set_option linter.unusedVariables false
set_option linter.unusedSimpArgs false
end Go.Proofs.YtmkjlhplgcifiaaGreat
namespace Go.Proofs.YtmkjlhplgcifiaaGreat
open Go.ChangeShapes Go.WideShapes Go.ChangeAt Go.RowKit
attribute [local simp] World.cell?_grow
attribute [local go_sem] World.cell?_grow
attribute [local simp] World.cell?_alloc_there
attribute [local go_sem] World.cell?_alloc_there
attribute [local go_sem] eqg_blk std_blk eqg_pod std_pod eqg_sel std_sel eqg_prt std_prt
attribute [local go_sem ↓] eql_blk eql_sel neq_sel eql_prt eql_pod
attribute [local go_sem ↓] met_in1 met_in2 met_re1 met_re2
attribute [local go_sem ↓] met_has1 met_has2
set_option linter.unusedVariables false
set_option linter.unusedSimpArgs false
end Go.Proofs.YtmkjlhplgcifiaaGreat
