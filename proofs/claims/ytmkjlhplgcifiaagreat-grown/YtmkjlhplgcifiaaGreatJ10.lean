/-
  The generic loops of package list, at each element type.
  Rules and policies: when they are right, to whom they apply, what they let go.
-/
import Derived.Test.YtmkjlhplgcifiaaGreatJ05
import Derived.Test.YtmkjlhplgcifiaaGreatJ09
namespace Go.Proofs.YtmkjlhplgcifiaaGreat
open Go.ChangeShapes Go.WideShapes Go.ChangeAt Go.RowKit
attribute [local simp] World.cell?_grow
attribute [local go_sem] World.cell?_grow
attribute [local go_sem] eqg_blk std_blk eqg_pod std_pod eqg_sel std_sel eqg_prt std_prt
attribute [local go_sem ↓] eql_blk eql_sel neq_sel eql_prt eql_pod
set_option linter.unusedVariables false
set_option linter.unusedSimpArgs false
theorem allRule (f : DRule → Bool) (a : Option Addr) (cap : Nat) (l : List DRule) (w : World) (hl : rdRules w.heap.size w a l)
    (hK : ∀ (x : DRule) (pa qa : Option Addr) (pc qc : Nat) (w1 : World), x ∈ l → Below w.heap.size w w1 → rdPeers w1.heap.size w1 pa x.peers → rdPorts w1.heap.size w1 qa x.ports → Calls Tryz.prog 121 #[.agg #[.slice pa x.peers.length pc, .slice qa x.ports.length qc]] w1 fun e w2 => e = .returned (.bool (f x)) ∧ Below w1.heap.size w1 w2) :
    Calls Tryz.prog 149 #[.slice a l.length cap, .func (.func 121) #[] #[]] w fun e w' => e = .returned (.bool (l.all f)) ∧ Below w.heap.size w w' := by
  have HK := hid hK
  obtain ⟨hlen, hl⟩ := hl
  have HL := hid hl
  clear hl hK
  go_enter Tryz.func149, Tryz.ntmps149
  go_wp2
  go_loopw [9] (fun i wr => ∃ k : Nat, k ≤ l.length ∧ i = .int .i64 k ∧ (l.take k).all f = true ∧ Below w.heap.size w wr) (fun i _ => l.length - (intOf i).toNat)
  case atStart => exact ⟨0, Nat.zero_le _, rfl, rfl, Below.refl _ _⟩
  case round =>
    obtain ⟨k, hk, rfl, hall, hbw⟩ := hrel
    have HA := hid hall
    clear hall
    by_cases hlt : k < l.length
    · obtain ⟨hc, hf⟩ := bcell hbw
      obtain ⟨x, hxk⟩ : ∃ x, l[k]? = some x := ⟨l[k], by simp [hlt]⟩
      have HX := hid hxk
      clear hxk
      obtain ⟨b, off, rfl, hb, ⟨pa, pc, c0, hrp⟩, qa, qc, c1, hrq⟩ := HL.out k x HX.out
      cases hx : f x
      · go_wp2_with (go_at_call 121; refine (HK.out x pa qa pc qc _ (List.mem_of_getElem? HX.out) (by repeat (first | exact Below.refl _ _ | assumption | apply Ext.alloc | apply Ext.drewN | apply Ext.drew | refine Ext.trans ?_ (by assumption))) (rdPeers.to hrp (by repeat (first | exact Below.refl _ _ | assumption | apply Ext.alloc | apply Ext.drewN | apply Ext.drew | refine Ext.trans ?_ (by assumption)))) (rdPorts.to hrq (by repeat (first | exact Below.refl _ _ | assumption | apply Ext.alloc | apply Ext.drewN | apply Ext.drew | refine Ext.trans ?_ (by assumption))))).mono ?_; rintro e w1 ⟨rfl, hb1⟩)
        go_ret
        exact ⟨ret_bool (by rw [all_false HX.out hx]), (by repeat (first | exact Below.refl _ _ | assumption | apply Ext.alloc | apply Ext.drewN | apply Ext.drew | refine Ext.trans ?_ (by assumption)))⟩
      · go_wp2_with (go_at_call 121; refine (HK.out x pa qa pc qc _ (List.mem_of_getElem? HX.out) (by repeat (first | exact Below.refl _ _ | assumption | apply Ext.alloc | apply Ext.drewN | apply Ext.drew | refine Ext.trans ?_ (by assumption))) (rdPeers.to hrp (by repeat (first | exact Below.refl _ _ | assumption | apply Ext.alloc | apply Ext.drewN | apply Ext.drew | refine Ext.trans ?_ (by assumption)))) (rdPorts.to hrq (by repeat (first | exact Below.refl _ _ | assumption | apply Ext.alloc | apply Ext.drewN | apply Ext.drew | refine Ext.trans ?_ (by assumption))))).mono ?_; rintro e w1 ⟨rfl, hb1⟩)
        exact ⟨⟨k + 1, by omega, by go_num, take_all HX.out HA.out hx, (by repeat (first | exact Below.refl _ _ | assumption | apply Ext.alloc | apply Ext.drewN | apply Ext.drew | refine Ext.trans ?_ (by assumption)))⟩, by simp [intOf]; omega⟩
    · go_wp2
      go_ret
      have := HA.out
      rw [List.take_of_length_le (by omega)] at this
      exact ⟨ret_bool (by rw [this]), hbw⟩
theorem fewRule (f : DRule → Bool) (a : Option Addr) (cap : Nat) (l : List DRule) (most : Int) (w : World) (hl : rdRules w.heap.size w a l)
    (hK : ∀ (x : DRule) (pa qa : Option Addr) (pc qc : Nat) (w1 : World), x ∈ l → Below w.heap.size w w1 → rdPeers w1.heap.size w1 pa x.peers → rdPorts w1.heap.size w1 qa x.ports → Calls Tryz.prog 121 #[.agg #[.slice pa x.peers.length pc, .slice qa x.ports.length qc]] w1 fun e w2 => e = .returned (.bool (f x)) ∧ Below w1.heap.size w1 w2) :
    Calls Tryz.prog 120 #[.slice a l.length cap, .int .i64 most, .func (.func 121) #[] #[]] w fun e w' => e = .returned (.bool (few l most f)) ∧ Below w.heap.size w w' := by
  have HK := hid hK
  have HL := hid hl
  have hlen := hl.1
  clear hK hl
  by_cases h : (l.length : Int) ≤ most
  · have HF := hid (show few l most f = l.all f by simp [few, h])
    go_enter Tryz.func120, Tryz.ntmps120
    go_wp2_with (go_at_call 149; refine (allRule f _ _ _ _ HL.out HK.out).mono ?_; rintro e w1 ⟨rfl, hb1⟩)
    go_ret
    exact ⟨ret_bool (by rw [HF.out]), (by repeat (first | exact Below.refl _ _ | assumption | apply Ext.alloc | apply Ext.drewN | apply Ext.drew | refine Ext.trans ?_ (by assumption)))⟩
  · have HF := hid (show few l most f = false by simp [few, h])
    go_enter Tryz.func120, Tryz.ntmps120
    go_wp2
    go_ret
    exact ⟨ret_bool (by rw [HF.out]), (by repeat (first | exact Below.refl _ _ | assumption | apply Ext.alloc | apply Ext.drewN | apply Ext.drew | refine Ext.trans ?_ (by assumption)))⟩
theorem anyRule (f : DRule → Bool) (k0 k1 k2 : Value) (a : Option Addr) (cap : Nat) (l : List DRule) (w : World) (hl : rdRules w.heap.size w a l)
    (hK : ∀ (x : DRule) (pa qa : Option Addr) (pc qc : Nat) (w1 : World), x ∈ l → Below w.heap.size w w1 → rdPeers w1.heap.size w1 pa x.peers → rdPorts w1.heap.size w1 qa x.ports → Calls Tryz.prog 128 #[.agg #[.slice pa x.peers.length pc, .slice qa x.ports.length qc], k0, k1, k2] w1 fun e w2 => e = .returned (.bool (f x)) ∧ Below w1.heap.size w1 w2) :
    Calls Tryz.prog 126 #[.slice a l.length cap, .func (.func 128) #[] #[k0, k1, k2]] w fun e w' => e = .returned (.bool (l.any f)) ∧ Below w.heap.size w w' := by
  have HK := hid hK
  obtain ⟨hlen, hl⟩ := hl
  have HL := hid hl
  clear hl hK
  go_enter Tryz.func126, Tryz.ntmps126
  go_wp2
  go_loopw [9] (fun i wr => ∃ k : Nat, k ≤ l.length ∧ i = .int .i64 k ∧ (l.take k).any f = false ∧ Below w.heap.size w wr) (fun i _ => l.length - (intOf i).toNat)
  case atStart => exact ⟨0, Nat.zero_le _, rfl, rfl, Below.refl _ _⟩
  case round =>
    obtain ⟨k, hk, rfl, hall, hbw⟩ := hrel
    have HA := hid hall
    clear hall
    by_cases hlt : k < l.length
    · obtain ⟨hc, hf⟩ := bcell hbw
      obtain ⟨x, hxk⟩ : ∃ x, l[k]? = some x := ⟨l[k], by simp [hlt]⟩
      have HX := hid hxk
      clear hxk
      obtain ⟨b, off, rfl, hb, ⟨pa, pc, c0, hrp⟩, qa, qc, c1, hrq⟩ := HL.out k x HX.out
      cases hx : f x
      · go_wp2_with (go_at_call 128; refine (HK.out x pa qa pc qc _ (List.mem_of_getElem? HX.out) (by repeat (first | exact Below.refl _ _ | assumption | apply Ext.alloc | apply Ext.drewN | apply Ext.drew | refine Ext.trans ?_ (by assumption))) (rdPeers.to hrp (by repeat (first | exact Below.refl _ _ | assumption | apply Ext.alloc | apply Ext.drewN | apply Ext.drew | refine Ext.trans ?_ (by assumption)))) (rdPorts.to hrq (by repeat (first | exact Below.refl _ _ | assumption | apply Ext.alloc | apply Ext.drewN | apply Ext.drew | refine Ext.trans ?_ (by assumption))))).mono ?_; rintro e w1 ⟨rfl, hb1⟩)
        exact ⟨⟨k + 1, by omega, by go_num, take_any HX.out HA.out hx, (by repeat (first | exact Below.refl _ _ | assumption | apply Ext.alloc | apply Ext.drewN | apply Ext.drew | refine Ext.trans ?_ (by assumption)))⟩, by simp [intOf]; omega⟩
      · go_wp2_with (go_at_call 128; refine (HK.out x pa qa pc qc _ (List.mem_of_getElem? HX.out) (by repeat (first | exact Below.refl _ _ | assumption | apply Ext.alloc | apply Ext.drewN | apply Ext.drew | refine Ext.trans ?_ (by assumption))) (rdPeers.to hrp (by repeat (first | exact Below.refl _ _ | assumption | apply Ext.alloc | apply Ext.drewN | apply Ext.drew | refine Ext.trans ?_ (by assumption)))) (rdPorts.to hrq (by repeat (first | exact Below.refl _ _ | assumption | apply Ext.alloc | apply Ext.drewN | apply Ext.drew | refine Ext.trans ?_ (by assumption))))).mono ?_; rintro e w1 ⟨rfl, hb1⟩)
        go_ret
        exact ⟨ret_bool (by rw [any_true HX.out hx]), (by repeat (first | exact Below.refl _ _ | assumption | apply Ext.alloc | apply Ext.drewN | apply Ext.drew | refine Ext.trans ?_ (by assumption)))⟩
    · go_wp2
      go_ret
      have := HA.out
      rw [List.take_of_length_le (by omega)] at this
      exact ⟨ret_bool (by rw [this]), hbw⟩
end Go.Proofs.YtmkjlhplgcifiaaGreat
namespace Go.Proofs.YtmkjlhplgcifiaaGreat
open Go.ChangeShapes Go.WideShapes Go.ChangeAt Go.RowKit
attribute [local simp] World.cell?_grow
attribute [local go_sem] World.cell?_grow
attribute [local go_sem] eqg_blk std_blk eqg_pod std_pod eqg_sel std_sel eqg_prt std_prt
attribute [local go_sem ↓] eql_blk eql_sel neq_sel eql_prt eql_pod
attribute [local go_sem ↓] met_in1 met_in2 met_re1 met_re2
set_option linter.unusedVariables false
set_option linter.unusedSimpArgs false
theorem met_has1 (c0 c1 c2 c3 c4 c5 c6 : Value) (w : World) : (method 379 227 (.agg #[c0, c1, c2, c3, c4, c5, c6]) "palisade/peer.has").run Tryz.prog w = .ok (223, .agg #[c0, c1, c2, c3, c4, c5, c6]) w := by kernel_rfl
theorem met_has2 (c0 c1 c2 c3 c4 c5 c6 : Value) (w : World) : (method 379 228 (.agg #[c0, c1, c2, c3, c4, c5, c6]) "palisade/peer.has").run Tryz.prog w = .ok (231, .agg #[c0, c1, c2, c3, c4, c5, c6]) w := by kernel_rfl
attribute [local go_sem ↓] met_has1 met_has2
theorem any_podAt (l : List DPod) (ip : Int) (q : DPod → Bool) (h : l.Pairwise fun a b => a.ip ≠ b.ip) :
    (l.any fun p => decide (p.ip = ip) && q p) = (match podAt l ip with | none => false | some p => q p) := by
  induction l with
  | nil => rfl
  | cons a t ih =>
    obtain ⟨h1, h2⟩ := List.pairwise_cons.1 h
    have ih := ih h2
    unfold podAt at *
    by_cases e : a.ip = ip
    · have : (t.any fun p => decide (p.ip = ip) && q p) = false := by
        rw [Bool.eq_false_iff]
        intro h3
        obtain ⟨p, hp, hq⟩ := List.any_eq_true.1 h3
        simp only [Bool.and_eq_true, decide_eq_true_eq] at hq
        exact h1 p hp (by rw [e, hq.1])
      simp [List.find?_cons, e, this]
    · simp only [List.any_cons, List.find?_cons, decide_eq_false e, Bool.false_and, Bool.false_or]
      exact ih
theorem peerHas_pods (pods : List DPod) (space ip : Int) (x : DPeer) (hk : x.kind = 1) (ho : podsOk pods) (h0 : 0 ≤ space) (h1 : space ≤ 3) :
    (pods.any fun p => decide (p.ip = ip) && (spaceBit (sfrom x.spaces space) p.space && sels x.need x.ban p.labels)) = peerHas pods space ip x := by
  rw [any_podAt _ _ _ ho.2, peerHas, if_neg (by omega)]
  cases hp : podAt pods ip with
  | none => rfl
  | some p =>
    have hm : p ∈ pods := List.mem_of_find?_eq_some hp
    have hb := (podOk_true.1 (ho.1 p hm)).2.2.1
    show (spaceBit (sfrom x.spaces space) p.space && sels x.need x.ban p.labels) = _
    rw [Bool.and_comm]
    congr 1
    unfold sfrom
    split
    · exact own_eq space p.space h0 h1 hb.1 hb.2
    · rfl
theorem peerOk_pods' {x : DPeer} (h : peerOk x = true) (hk : x.kind = 1) : selOk x.need x.ban = true ∧ 0 ≤ x.spaces ∧ x.spaces ≤ 15 := by
  rw [peerOk, if_pos hk] at h
  simp only [Bool.and_eq_true, btw, decide_eq_true_eq] at h
  exact ⟨h.1.1.1.1, h.1.1.1.2⟩
theorem peerOk_blocks' {x : DPeer} (h : peerOk x = true) (hk : ¬ x.kind = 1) : x.kind = 2 ∧ blkOk ⟨x.base, x.bits⟩ = true ∧ x.exc.all blkOk = true := by
  rw [peerOk, if_neg hk] at h
  simp only [Bool.and_eq_true, few, decide_eq_true_eq] at h
  exact ⟨h.1.1.1.1.1, h.1.1.1.1.2, h.2.2⟩
set_option maxRecDepth 100000 in
theorem peerHas_any (x : DPeer) (ea : Option Addr) (ec : Nat) (ip space : Int) (sa : Option Addr) (pods : List DPod) (sc : Nat) (w : World) (hr : rdBlks w.heap.size w ea x.exc) (hp : rdPods w.heap.size w sa pods) (ho : podsOk pods)
    (hx : peerOk x = true) (i0 : 0 ≤ ip) (i1 : ip ≤ 4294967295) (h0 : 0 ≤ space) (h1 : space ≤ 3) :
    Calls Tryz.prog 157 #[.agg #[.int .i64 x.kind, .int .i64 x.need, .int .i64 x.ban, .int .i64 x.spaces, .int .i64 x.base, .int .i64 x.bits, .slice ea x.exc.length ec], .int .i64 ip, .agg #[.int .i64 space, .slice sa pods.length sc]] w
      fun e w' => e = .returned (.bool (peerHas pods space ip x)) ∧ Below w.heap.size w w' := by
  have HR := hid hr
  have HP := hid hp
  have HO := hid ho
  by_cases hk : x.kind = 1
  · obtain ⟨hs, hs0, hs1⟩ := peerOk_pods' hx hk
    have HS := hid hs
    have HF := hid (peerHas_pods pods space ip x hk ho h0 h1)
    have HK := hid hk
    clear hr hp ho hx hk hs
    go_enter Tryz.func157, Tryz.ntmps157
    go_wp2_with (first
      | (go_at_call 172; refine (kindOf_pods _ _ _ _ HK.out).mono ?_; rintro e w1 ⟨rfl, hb1⟩; obtain ⟨hc1, hf1⟩ := bcell hb1; have hz1 := hb_lt hb1)
      | (go_at_call 223; refine (hasPods_any x _ _ _ _ _ _ _ _ _ (rdPods.to HP.out (by repeat (first | exact Below.refl _ _ | assumption | apply Ext.alloc | apply Ext.drewN | apply Ext.drew | refine Ext.trans ?_ (by assumption)))) HO.out HS.out hs0 hs1 h0 h1).mono ?_; rw [HF.out]; rintro e w1 ⟨rfl, hb1⟩; obtain ⟨hc1, hf1⟩ := bcell hb1; have hz1 := hb_lt hb1))
    go_ret
    exact ⟨rfl, (by repeat (first | exact Below.refl _ _ | assumption | apply Ext.alloc | apply Ext.drewN | apply Ext.drew | refine Ext.trans ?_ (by assumption)))⟩
  · obtain ⟨hk2, hb, he⟩ := peerOk_blocks' hx hk
    have HS := hid hb
    have HE := hid he
    have HF := hid (show (blkHas ip ⟨x.base, x.bits⟩ && !(x.exc.any (blkHas ip))) = peerHas pods space ip x by rw [peerHas, if_pos hk2])
    have HK := hid hk2
    clear hr hp ho hx hk hk2 hb he
    go_enter Tryz.func157, Tryz.ntmps157
    go_wp2_with (first
      | (go_at_call 172; refine (kindOf_blocks _ _ _ _ HK.out).mono ?_; rintro e w1 ⟨rfl, hb1⟩; obtain ⟨hc1, hf1⟩ := bcell hb1; have hz1 := hb_lt hb1)
      | (go_at_call 231; refine (hasBlocks_any x _ _ _ _ _ _ _ _ (rdBlks.to HR.out (by repeat (first | exact Below.refl _ _ | assumption | apply Ext.alloc | apply Ext.drewN | apply Ext.drew | refine Ext.trans ?_ (by assumption)))) HS.out HE.out i0 i1).mono ?_; rw [HF.out]; rintro e w1 ⟨rfl, hb1⟩; obtain ⟨hc1, hf1⟩ := bcell hb1; have hz1 := hb_lt hb1))
    go_ret
    exact ⟨rfl, (by repeat (first | exact Below.refl _ _ | assumption | apply Ext.alloc | apply Ext.drewN | apply Ext.drew | refine Ext.trans ?_ (by assumption)))⟩
theorem fitsClo1 (x : DPeer) (ea : Option Addr) (ec : Nat) (far space : Int) (sa : Option Addr) (pods : List DPod) (sc : Nat) (fb nb : Nat) (w : World) (hr : rdBlks w.heap.size w ea x.exc) (hp : rdPods w.heap.size w sa pods) (ho : podsOk pods)
    (hx : peerOk x = true) (i0 : 0 ≤ far) (i1 : far ≤ 4294967295) (h0 : 0 ≤ space) (h1 : space ≤ 3)
    (c1 : w.cell? ⟨fb, 0, none⟩ = some (.int .i64 far)) (c2 : w.cell? ⟨nb, 0, none⟩ = some (.int .i64 space)) (c3 : w.cell? ⟨nb, 1, none⟩ = some (.slice sa pods.length sc)) :
    Calls Tryz.prog 156 #[.agg #[.int .i64 x.kind, .int .i64 x.need, .int .i64 x.ban, .int .i64 x.spaces, .int .i64 x.base, .int .i64 x.bits, .slice ea x.exc.length ec], .pointer (some ⟨fb, 0, none⟩), .pointer (some ⟨nb, 0, none⟩)] w
      fun e w' => e = .returned (.bool (peerHas pods space far x)) ∧ Below w.heap.size w w' := by
  have HR := hid hr
  have HP := hid hp
  have HO := hid ho
  have HX := hid hx
  have l1 := cell_lt c1
  have l2 := cell_lt c2
  clear hr hp ho hx
  go_enter Tryz.func156, Tryz.ntmps156
  go_wp2_with (go_at_call 157; refine (peerHas_any x _ _ _ _ _ _ _ _ (rdBlks.to HR.out (by repeat (first | exact Below.refl _ _ | assumption | apply Ext.alloc | apply Ext.drewN | apply Ext.drew | refine Ext.trans ?_ (by assumption)))) (rdPods.to HP.out (by repeat (first | exact Below.refl _ _ | assumption | apply Ext.alloc | apply Ext.drewN | apply Ext.drew | refine Ext.trans ?_ (by assumption)))) HO.out HX.out i0 i1 h0 h1).mono ?_; rintro e w1 ⟨rfl, hb1⟩; obtain ⟨hc1, hf1⟩ := bcell hb1; have hz1 := hb_lt hb1)
  go_ret
  exact ⟨rfl, (by repeat (first | exact Below.refl _ _ | assumption | apply Ext.alloc | apply Ext.drewN | apply Ext.drew | refine Ext.trans ?_ (by assumption)))⟩
theorem fitsClo2 (x : DPort) (k : DPkt) (kb : Nat) (w : World) (c0 : w.cell? ⟨kb, 0, none⟩ = some (.int .i64 k.src)) (c1 : w.cell? ⟨kb, 1, none⟩ = some (.int .i64 k.dst)) (c2 : w.cell? ⟨kb, 2, none⟩ = some (.int .i64 k.proto)) (c3 : w.cell? ⟨kb, 3, none⟩ = some (.int .i64 k.port)) :
    Calls Tryz.prog 159 #[.agg #[.int .i64 x.proto, .int .i64 x.lo, .int .i64 x.hi], .pointer (some ⟨kb, 0, none⟩)] w
      fun e w' => e = .returned (.bool (prtFits k x)) ∧ Below w.heap.size w w' := by
  have l1 := cell_lt c1
  go_enter Tryz.func159, Tryz.ntmps159
  go_wp2_with (go_at_call 105; refine (prtFits_any x k _).mono ?_; rintro e w1 ⟨rfl, hb1⟩; obtain ⟨hc1, hf1⟩ := bcell hb1; have hz1 := hb_lt hb1)
  go_ret
  exact ⟨rfl, (by repeat (first | exact Below.refl _ _ | assumption | apply Ext.alloc | apply Ext.drewN | apply Ext.drew | refine Ext.trans ?_ (by assumption)))⟩
theorem ruleRight_any (x : DRule) (pa qa : Option Addr) (pc qc : Nat) (w : World) (hp : rdPeers w.heap.size w pa x.peers) (hq : rdPorts w.heap.size w qa x.ports) :
    Calls Tryz.prog 121 #[.agg #[.slice pa x.peers.length pc, .slice qa x.ports.length qc]] w fun e w' => e = .returned (.bool (rulOk x)) ∧ Below w.heap.size w w' := by
  have HP := hid hp
  have HQ := hid hq
  clear hp hq
  go_enter Tryz.func121, Tryz.ntmps121
  cases hq1 : few x.peers 2 peerOk
  · go_wp2_with (first
      | (go_at_call 150; refine (fewPeer peerOk _ _ _ _ _ (rdPeers.to HP.out (by repeat (first | exact Below.refl _ _ | assumption | apply Ext.alloc | apply Ext.drewN | apply Ext.drew | refine Ext.trans ?_ (by assumption)))) (fun x ea ec w1 _ _ hr => peerRight_any x ea ec w1 hr)).mono ?_; rintro e w1 ⟨rfl, hb1⟩; obtain ⟨hc1, hf1⟩ := bcell hb1; have hz1 := hb_lt hb1)
      | (go_at_call 152; refine (fewPort prtOk _ _ _ _ _ (rdPorts.to HQ.out (by repeat (first | exact Below.refl _ _ | assumption | apply Ext.alloc | apply Ext.drewN | apply Ext.drew | refine Ext.trans ?_ (by assumption)))) (fun x w1 _ _ => portRight_any x w1)).mono ?_; rintro e w1 ⟨rfl, hb1⟩; obtain ⟨hc1, hf1⟩ := bcell hb1; have hz1 := hb_lt hb1))
    go_ret
    exact ⟨by simp [rulOk, hq1], (by repeat (first | exact Below.refl _ _ | assumption | apply Ext.alloc | apply Ext.drewN | apply Ext.drew | refine Ext.trans ?_ (by assumption)))⟩
  cases hq2 : few x.ports 2 prtOk
  · go_wp2_with (first
      | (go_at_call 150; refine (fewPeer peerOk _ _ _ _ _ (rdPeers.to HP.out (by repeat (first | exact Below.refl _ _ | assumption | apply Ext.alloc | apply Ext.drewN | apply Ext.drew | refine Ext.trans ?_ (by assumption)))) (fun x ea ec w1 _ _ hr => peerRight_any x ea ec w1 hr)).mono ?_; rintro e w1 ⟨rfl, hb1⟩; obtain ⟨hc1, hf1⟩ := bcell hb1; have hz1 := hb_lt hb1)
      | (go_at_call 152; refine (fewPort prtOk _ _ _ _ _ (rdPorts.to HQ.out (by repeat (first | exact Below.refl _ _ | assumption | apply Ext.alloc | apply Ext.drewN | apply Ext.drew | refine Ext.trans ?_ (by assumption)))) (fun x w1 _ _ => portRight_any x w1)).mono ?_; rintro e w1 ⟨rfl, hb1⟩; obtain ⟨hc1, hf1⟩ := bcell hb1; have hz1 := hb_lt hb1))
    go_ret
    exact ⟨by simp [rulOk, hq1, hq2], (by repeat (first | exact Below.refl _ _ | assumption | apply Ext.alloc | apply Ext.drewN | apply Ext.drew | refine Ext.trans ?_ (by assumption)))⟩
  go_wp2_with (first
    | (go_at_call 150; refine (fewPeer peerOk _ _ _ _ _ (rdPeers.to HP.out (by repeat (first | exact Below.refl _ _ | assumption | apply Ext.alloc | apply Ext.drewN | apply Ext.drew | refine Ext.trans ?_ (by assumption)))) (fun x ea ec w1 _ _ hr => peerRight_any x ea ec w1 hr)).mono ?_; rintro e w1 ⟨rfl, hb1⟩; obtain ⟨hc1, hf1⟩ := bcell hb1; have hz1 := hb_lt hb1)
    | (go_at_call 152; refine (fewPort prtOk _ _ _ _ _ (rdPorts.to HQ.out (by repeat (first | exact Below.refl _ _ | assumption | apply Ext.alloc | apply Ext.drewN | apply Ext.drew | refine Ext.trans ?_ (by assumption)))) (fun x w1 _ _ => portRight_any x w1)).mono ?_; rintro e w1 ⟨rfl, hb1⟩; obtain ⟨hc1, hf1⟩ := bcell hb1; have hz1 := hb_lt hb1))
  go_ret
  exact ⟨by simp [rulOk, hq1, hq2], (by repeat (first | exact Below.refl _ _ | assumption | apply Ext.alloc | apply Ext.drewN | apply Ext.drew | refine Ext.trans ?_ (by assumption)))⟩
end Go.Proofs.YtmkjlhplgcifiaaGreat
