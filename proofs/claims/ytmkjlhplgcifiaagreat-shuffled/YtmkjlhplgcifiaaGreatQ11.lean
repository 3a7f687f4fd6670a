/-
  The ports and the far ends of a rule.
  Rules and policies: what fits, what applies, what is let go.
  policy.Gaps: what a policy lets go, by blocks and ports (Out).
  row.Once: each row but once.
-/
import Derived.Test.YtmkjlhplgcifiaaGreatQ09
import Derived.Test.YtmkjlhplgcifiaaGreatQ10
import Derived.Test.YtmkjlhplgcifiaaGreatQ07
import Derived.Test.YtmkjlhplgcifiaaGreatQ03
import Derived.Laws.StructEq
namespace Go.Proofs.YtmkjlhplgcifiaaGreat
open Go.ChangeShapes Go.WideShapes Go.ChangeAt Go.RowKit
attribute [local simp] World.cell?_grow
attribute [local go_sem] World.cell?_grow
attribute [local simp] World.cell?_alloc_there
attribute [local go_sem] World.cell?_alloc_there
attribute [local go_sem] eqg_blk std_blk eqg_pod std_pod eqg_sel std_sel eqg_prt std_prt
attribute [local go_sem ↓] eql_blk eql_sel neq_sel eql_prt eql_pod
attribute [local go_sem ↓] met_in1 met_in2 met_re1 met_re2
attribute [local go_sem ↓] met_has1 met_has2
attribute [local go_sem ↓] met_bl1 met_bl2
set_option linter.unusedVariables false
set_option linter.unusedSimpArgs false

def dports (r : DRule) : List DPort := if r.ports.length = 0 then [⟨0, 0, 65535⟩] else r.ports
def dfars (pods : List DPod) (space : Int) (r : DRule) : List DBlk := if r.peers.length = 0 then [⟨0, 0⟩] else r.peers.flatMap (pBlocks pods space)
/-- ports that lie in old blocks, or in new ones -/
def rdPortsS (B0 B1 : Nat) (w : World) (a : Option Addr) (l : List DPort) : Prop := l.length * 24 ≤ 140737488351232 ∧ ∀ i x, l[i]? = some x → ∃ b off, a = some ⟨b, off, none⟩ ∧ (b < B0 ∨ B1 ≤ b) ∧ b < w.heap.size ∧ ePort B0 w b (off + i * 3) x

theorem len_zero {α : Type} {l : List α} (h : l.length = 0) : ((l.length : Int) == 0) = true := by simp [h]
theorem len_nonzero {α : Type} {l : List α} (h : ¬ l.length = 0) : ((l.length : Int) == 0) = false := by simp [h]

theorem ports_any (r : DRule) (pa qa : Option Addr) (pc qc B0 : Nat) (w : World) (hq : rdPorts B0 w qa r.ports) (hB : B0 ≤ w.heap.size) :
    Calls Tryz.prog 162 #[.agg #[.slice pa r.peers.length pc, .slice qa r.ports.length qc]] w fun e w' => (∃ a c, e = .returned (.slice a (dports r).length c) ∧ rdPortsS B0 w.heap.size w' a (dports r)) ∧ Below w.heap.size w w' := by
  have HQ := hid hq
  have hlen := hq.1
  clear hq
  by_cases h : r.ports.length = 0
  · have HF := hid (show dports r = [⟨0, 0, 65535⟩] by rw [dports, if_pos h])
    have h2 := len_zero h
    rw [HF.out]
    go_enter Tryz.func162, Tryz.ntmps162
    go_wp2_with (go_at_call 103; refine (everyPort_any _).mono ?_; rintro e w1 ⟨rfl, hb1⟩; obtain ⟨hc1, hf1⟩ := bcell hb1; have hz1 := hb_lt hb1)
    go_ret
    refine ⟨⟨_, _, rfl, by simp, fun i x hx => ?_⟩, (by repeat (first | exact Below.refl _ _ | assumption | apply Ext.alloc | apply Ext.drewN | apply Ext.drew | refine Ext.trans ?_ (by assumption)))⟩
    have hs : Below w.heap.size w w1 := (by repeat (first | exact Below.refl _ _ | assumption | apply Ext.alloc | apply Ext.drewN | apply Ext.drew | refine Ext.trans ?_ (by assumption)))
    match i, hx with
    | 0, hx =>
      simp at hx; subst hx
      exact ⟨w1.heap.size, 0, rfl, .inr hs.size, by simp, by simp [ePort]⟩
    | i + 1, hx => simp at hx
  · have HF := hid (show dports r = r.ports by rw [dports, if_neg h])
    have h2 := len_nonzero h
    rw [HF.out]
    go_enter Tryz.func162, Tryz.ntmps162
    go_wp2
    go_ret
    refine ⟨⟨_, _, rfl, hlen, fun i x hx => ?_⟩, (by repeat (first | exact Below.refl _ _ | assumption | apply Ext.alloc | apply Ext.drewN | apply Ext.drew | refine Ext.trans ?_ (by assumption)))⟩
    obtain ⟨b, off, e, hb, he⟩ := HQ.out.2 i x hx
    exact ⟨b, off, e, .inl hb, by simp; omega, ePort.ext _ ((show Below w.heap.size w _ from (by repeat (first | exact Below.refl _ _ | assumption | apply Ext.alloc | apply Ext.drewN | apply Ext.drew | refine Ext.trans ?_ (by assumption)))).mono hB) hb he⟩

theorem flatMap_le {α β : Type} {f : α → List β} {m : Nat} : ∀ (l : List α), (∀ x ∈ l, (f x).length ≤ m) → (l.flatMap f).length ≤ l.length * m
  | [], _ => by simp
  | x :: l, h => by
    have h1 := h x (by simp)
    have h2 := flatMap_le l (fun y hy => h y (by simp [hy]))
    rw [List.flatMap_cons, List.length_append, List.length_cons, Nat.add_mul]; omega
theorem pBlocks_le {pods : List DPod} {space : Int} {x : DPeer} (hx : peerOk x = true) (hpl : pods.length ≤ 8) : (pBlocks pods space x).length ≤ 65 := by
  unfold pBlocks
  split
  · rw [List.length_map]; exact Nat.le_trans (List.length_filter_le _ _) (by omega)
  · rename_i hk
    obtain ⟨hk2, hb, he⟩ := peerOk_blocks' hx hk
    rw [peerOk, if_neg hk] at hx
    simp only [Bool.and_eq_true, few, decide_eq_true_eq] at hx
    exact wout_le 33 hb he (Int.ofNat_le.1 hx.2.1)
theorem rulOk_lens {r : DRule} (h : rulOk r = true) : r.peers.length ≤ 2 ∧ r.ports.length ≤ 2 := by
  simp only [rulOk, few, Bool.and_eq_true, decide_eq_true_eq] at h
  exact ⟨Int.ofNat_le.1 h.1.1, Int.ofNat_le.1 h.2.1⟩
theorem take_flat {α β : Type} {l : List α} {f : α → List β} {k : Nat} {x : α} (h : l[k]? = some x) : (l.take (k + 1)).flatMap f = (l.take k).flatMap f ++ f x := by
  rw [List.take_add_one, h]; simp
theorem take_flat_le {l : List DPeer} {pods : List DPod} {space : Int} (h : ∀ x ∈ l, peerOk x = true) (hpl : pods.length ≤ 8) (hl : l.length ≤ 2) (k : Nat) : ((l.take k).flatMap (pBlocks pods space)).length ≤ 130 := by
  have h1 := flatMap_le (f := pBlocks pods space) (m := 65) (l.take k) (fun x hx => pBlocks_le (h x (List.mem_of_mem_take hx)) hpl)
  have h2 : (l.take k).length ≤ 2 := by rw [List.length_take]; omega
  omega

set_option maxRecDepth 100000 in
set_option maxHeartbeats 1000000 in
theorem fars_any (r : DRule) (pa qa : Option Addr) (pc qc : Nat) (space : Int) (sa : Option Addr) (pods : List DPod) (sc : Nat) (w : World) (hp : rdPeers w.heap.size w pa r.peers) (hd : rdPods w.heap.size w sa pods) (ho : podsOk pods) (hpl : pods.length ≤ 8)
    (hr : rulOk r = true) (h0 : 0 ≤ space) (h1 : space ≤ 3) :
    Calls Tryz.prog 161 #[.agg #[.slice pa r.peers.length pc, .slice qa r.ports.length qc], .agg #[.int .i64 space, .slice sa pods.length sc]] w
      fun e w' => (∃ v, e = .returned v ∧ w'.ownsRow w.heap.size 47 2 v (dfars pods space r).length ((dfars pods space r).flatMap encBlk)) ∧ Below w.heap.size w w' := by
  have HP := hid hp
  have HD := hid hd
  have HO := hid ho
  have HOK := hid (rulOk_true hr).1
  have hl2 := (rulOk_lens hr).1
  have hlen := hp.1
  clear hp hd ho hr
  by_cases h : r.peers.length = 0
  · have HF := hid (show dfars pods space r = [⟨0, 0⟩] by rw [dfars, if_pos h])
    have h2 := len_zero h
    rw [HF.out]
    go_enter Tryz.func161, Tryz.ntmps161
    go_wp2_with (go_at_call 102; refine (allB_any _).mono ?_; rintro e w1 ⟨rfl, hb1⟩; obtain ⟨hc1, hf1⟩ := bcell hb1; have hz1 := hb_lt hb1)
    go_ret
    exact ⟨⟨_, rfl, own_built w1 [.int .i64 0, .int .i64 0] w.heap.size _ 2 1 (by have := (show Below w.heap.size w w1 from (by repeat (first | exact Below.refl _ _ | assumption | apply Ext.alloc | apply Ext.drewN | apply Ext.drew | refine Ext.trans ?_ (by assumption)))).size; omega) rfl (by unfold maxLen; omega)⟩, (by repeat (first | exact Below.refl _ _ | assumption | apply Ext.alloc | apply Ext.drewN | apply Ext.drew | refine Ext.trans ?_ (by assumption)))⟩
  · have HF := hid (show dfars pods space r = r.peers.flatMap (pBlocks pods space) by rw [dfars, if_neg h])
    have h2 := len_nonzero h
    rw [HF.out]
    obtain ⟨i0, hi, iz0, iz1, iz2⟩ := info_parts info_blk
    go_enter Tryz.func161, Tryz.ntmps161
    go_wp2
    have hBa : Below w.heap.size w ((w.alloc (.cells #[.slice pa r.peers.length pc, .slice qa r.ports.length qc] 64)).alloc (.cells #[.int .i64 space, .slice sa pods.length sc] 176)) := (by repeat (first | exact Below.refl _ _ | assumption | apply Ext.alloc | apply Ext.drewN | apply Ext.drew | refine Ext.trans ?_ (by assumption)))
    have s0 : ((w.alloc (.cells #[.slice pa r.peers.length pc, .slice qa r.ports.length qc] 64)).alloc (.cells #[.int .i64 space, .slice sa pods.length sc] 176)).cell? ⟨w.heap.size + 1, 0, none⟩ = some (.int .i64 space) := by simp [go_sem]
    have s1 : ((w.alloc (.cells #[.slice pa r.peers.length pc, .slice qa r.ports.length qc] 64)).alloc (.cells #[.int .i64 space, .slice sa pods.length sc] 176)).cell? ⟨w.heap.size + 1, 1, none⟩ = some (.slice sa pods.length sc) := by simp [go_sem]
    generalize (w.alloc (.cells #[.slice pa r.peers.length pc, .slice qa r.ports.length qc] 64)).alloc (.cells #[.int .i64 space, .slice sa pods.length sc] 176) = W at hBa s0 s1 ⊢
    have HBa := hid hBa
    have hWs := hBa.size
    clear hBa
    go_loopw [5, 17] (fun kv i wr => ∃ k : Nat, k ≤ r.peers.length ∧ i = .int .i64 k ∧ wr.ownsRow W.heap.size 47 2 kv ((r.peers.take k).flatMap (pBlocks pods space)).length (((r.peers.take k).flatMap (pBlocks pods space)).flatMap encBlk) ∧ Below W.heap.size W wr) (fun _ i _ => r.peers.length - (intOf i).toNat)
    case atStart => exact ⟨0, Nat.zero_le _, rfl, World.ownsRow_nil _ _ _ _, Below.refl _ _⟩
    case round =>
      obtain ⟨k, hk, rfl, hown, hbw⟩ := hrel
      have HO2 := hid hown
      have HBW := hid hbw
      have HB := hid (show Below w.heap.size w wr from HBa.out.trans (hbw.mono hWs))
      have hfl := take_flat_le (space := space) HOK.out hpl hl2 k
      clear hown
      by_cases hlt : k < r.peers.length
      · obtain ⟨x, hxk⟩ : ∃ x, r.peers[k]? = some x := ⟨r.peers[k], by simp [hlt]⟩
        have HX := hid hxk
        have HXO := hid (HOK.out x (List.mem_of_getElem? hxk))
        have hxl := pBlocks_le (space := space) (HOK.out x (List.mem_of_getElem? hxk)) hpl
        have HT := hid (take_flat (f := pBlocks pods space) hxk)
        clear hxk
        obtain ⟨b, off, rfl, hb, c0, c1, c2, c3, c4, c5, ea, ec, c6, hre⟩ := HP.out.2 k x HX.out
        have d0 := cell_to c0 HB.out
        have d1 := cell_to c1 HB.out
        have d2 := cell_to c2 HB.out
        have d3 := cell_to c3 HB.out
        have d4 := cell_to c4 HB.out
        have d5 := cell_to c5 HB.out
        have d6 := cell_to c6 HB.out
        have t0 := cell_to s0 hbw
        have t1 := cell_to s1 hbw
        have HRE := hid hre
        clear hre c0 c1 c2 c3 c4 c5 c6
        go_wp2_with (first
          | (go_at_call 176; refine (peerBlocks_any x _ _ _ _ _ _ _ (rdBlks.ext (HB.out.alloc HB.out.size _) (by have := HB.out.size; simp; omega) HRE.out) (rdPods.ext (HB.out.alloc HB.out.size _) (by have := HB.out.size; simp; omega) HD.out) HO.out hpl HXO.out h0 h1).mono ?_; rintro e w2 ⟨⟨a2, cc2, rfl, hr2⟩, hb2⟩; have HR2 := hid hr2; have HO3 := hid (own_to (HO2.out.alloc (.cells #[.int .i64 x.kind, .int .i64 x.need, .int .i64 x.ban, .int .i64 x.spaces, .int .i64 x.base, .int .i64 x.bits, .slice ea x.exc.length ec] 69)) hb2); have hW2 : Below W.heap.size W w2 := (HBW.out.alloc HBW.out.size _).trans (hb2.mono (by have := HBW.out.size; simp; omega)); clear hr2)
          | (at_builtin; refine wpList_append_list _ rfl _ _ 67 rfl W.heap.size 47 i0 _ 2 16 Tryz.underlying67 hi iz0 iz1 iz2 rfl (by decide) _ _ _ rfl HO3.out a2 _ cc2 ((pBlocks pods space x).flatMap encBlk) rfl (oflat_len (k := 2) (fun _ => rfl) _) (news_of (k := 2) (fun _ => rfl) (by decide) HR2.out (fun _ _ _ => eBlk_cells)) (encBlk_one _) (by unfold maxLen; omega) (by omega) hW2.size ?_; intro v' w3 hown' hg3))
        refine ⟨⟨k + 1, by omega, by go_num, ?_, own_below hW2 hW2.size HO3.out hg3⟩, by simp [intOf]; omega⟩
        rw [HT.out, List.length_append, List.flatMap_append]; exact hown'
      · go_wp2
        have he : r.peers.take k = r.peers := List.take_of_length_le (by omega)
        have ho := HO2.out
        rw [he] at ho
        go_ret
        exact ⟨⟨_, rfl, own_le ho hWs⟩, HB.out⟩
end Go.Proofs.YtmkjlhplgcifiaaGreat
namespace Go.Proofs.YtmkjlhplgcifiaaGreat
open Go.ChangeShapes Go.WideShapes Go.ChangeAt Go.RowKit
attribute [local simp] World.cell?_grow
attribute [local go_sem] World.cell?_grow
attribute [local simp] World.cell?_alloc_there
attribute [local go_sem] World.cell?_alloc_there
attribute [local go_sem] eqg_blk std_blk eqg_pod std_pod eqg_sel std_sel eqg_prt std_prt
attribute [local go_sem ↓] eql_blk eql_sel neq_sel eql_prt eql_pod
attribute [local go_sem ↓] met_in1 met_in2 met_re1 met_re2
attribute [local go_sem ↓] met_has1 met_has2
set_option linter.unusedVariables false
set_option linter.unusedSimpArgs false

theorem ways_fin2 : ∀ a : Fin 4, ∀ b : Fin 2, (bits .and .i64 (a.val : Int) ((b.val : Int) + 1) != 0) = hasWay a.val (b.val + 1) := by decide +kernel
theorem ways_eq2 (ways way : Int) (h0 : 1 ≤ ways) (h1 : ways ≤ 3) (hw : way = 1 ∨ way = 2) : (bits .and .i64 ways way != 0) = hasWay ways way := by
  obtain ⟨a, rfl⟩ := Int.eq_ofNat_of_zero_le (show 0 ≤ ways by omega)
  rcases hw with rfl | rfl
  · exact ways_fin2 ⟨a, by omega⟩ ⟨0, by omega⟩
  · exact ways_fin2 ⟨a, by omega⟩ ⟨1, by omega⟩

theorem polOk_space {p : DPol} (h : polOk p = true) : btw p.space 0 3 = true := by simp only [polOk, Bool.and_eq_true] at h; exact h.1.1.1.1
theorem polOk_sel {p : DPol} (h : polOk p = true) : selOk p.need p.ban = true := by simp only [polOk, Bool.and_eq_true] at h; exact h.1.1.1.2
theorem polOk_ways {p : DPol} (h : polOk p = true) : btw p.ways 1 3 = true := by simp only [polOk, Bool.and_eq_true] at h; exact h.1.1.2
theorem polOk_outs {p : DPol} (h : polOk p = true) : ∀ r ∈ p.outs, rulOk r = true := by simp only [polOk, rulesOk, few, Bool.and_eq_true, List.all_eq_true] at h; exact h.1.2.1.2
theorem polOk_ins {p : DPol} (h : polOk p = true) : ∀ r ∈ p.ins, rulOk r = true := by simp only [polOk, rulesOk, few, Bool.and_eq_true, List.all_eq_true] at h; exact h.2.1.2
theorem pktOk_src {k : DPkt} (h : pktOk k = true) : 0 ≤ k.src ∧ k.src ≤ 4294967295 := by simp only [pktOk, btw, Bool.and_eq_true, decide_eq_true_eq] at h; exact h.1.1.1
theorem pktOk_dst {k : DPkt} (h : pktOk k = true) : 0 ≤ k.dst ∧ k.dst ≤ 4294967295 := by simp only [pktOk, btw, Bool.and_eq_true, decide_eq_true_eq] at h; exact h.1.1.2

theorem rules_out (p : DPol) (oa ia : Option Addr) (oc ic : Nat) (w : World) :
    Calls Tryz.prog 127 #[.agg #[.int .i64 p.space, .int .i64 p.need, .int .i64 p.ban, .int .i64 p.ways, .slice oa p.outs.length oc, .slice ia p.ins.length ic], .int .i64 1] w fun e w' => e = .returned (.slice oa p.outs.length oc) ∧ Below w.heap.size w w' := by
  go_enter Tryz.func127, Tryz.ntmps127
  go_wp2
  go_ret
  exact ⟨rfl, (by repeat (first | exact Below.refl _ _ | assumption | apply Ext.alloc | apply Ext.drewN | apply Ext.drew | refine Ext.trans ?_ (by assumption)))⟩
theorem applies_out (q : DPol) (oa ia : Option Addr) (on inn oc ic : Nat) (p : DPod) (w : World) (hq : polOk q = true) (hp : podOk p = true) :
    Calls Tryz.prog 124 #[.agg #[.int .i64 q.space, .int .i64 q.need, .int .i64 q.ban, .int .i64 q.ways, .slice oa on oc, .slice ia inn ic], .int .i64 1, .agg #[.int .i64 p.host, .int .i64 p.ip, .int .i64 p.space, .int .i64 p.labels]] w fun e w' => e = .returned (.bool (applies 1 p q)) ∧ Below w.heap.size w w' := by
  obtain ⟨⟨n0, n1⟩, b0, b1⟩ := selOk_true.1 (polOk_sel hq)
  obtain ⟨_, _, _, l0, l1⟩ := podOk_true.1 hp
  have hw := btw_true.1 (polOk_ways hq)
  have HW := hid (ways_eq2 q.ways 1 hw.1 hw.2 (by omega))
  clear hq hp
  cases hq1 : (bits .and .i64 q.ways 1 != 0)
  · have HF := hid (show applies 1 p q = false by rw [applies, ← HW.out, hq1]; rfl)
    go_enter Tryz.func124, Tryz.ntmps124
    go_wp2
    go_ret
    exact ⟨ret_bool (by rw [HF.out]), (by repeat (first | exact Below.refl _ _ | assumption | apply Ext.alloc | apply Ext.drewN | apply Ext.drew | refine Ext.trans ?_ (by assumption)))⟩
  cases hq2 : (q.space == p.space)
  · have HF := hid (show applies 1 p q = false by rw [applies, ← HW.out, hq1, ← ibeq, hq2]; rfl)
    go_enter Tryz.func124, Tryz.ntmps124
    go_wp2
    go_ret
    exact ⟨ret_bool (by rw [HF.out]), (by repeat (first | exact Below.refl _ _ | assumption | apply Ext.alloc | apply Ext.drewN | apply Ext.drew | refine Ext.trans ?_ (by assumption)))⟩
  · have HF := hid (show applies 1 p q = sels q.need q.ban p.labels by rw [applies, ← HW.out, hq1, ← ibeq, hq2]; rfl)
    go_enter Tryz.func124, Tryz.ntmps124
    go_wp2_with (go_at_call 154; refine (selects_any _ _ _ _ _ _ _ n0 n1 b0 b1 l0 l1).mono ?_; rintro e w1 ⟨rfl, hb1⟩; obtain ⟨hc1, hf1⟩ := bcell hb1; have hz1 := hb_lt hb1)
    go_ret
    exact ⟨ret_bool (by rw [HF.out]), (by repeat (first | exact Below.refl _ _ | assumption | apply Ext.alloc | apply Ext.drewN | apply Ext.drew | refine Ext.trans ?_ (by assumption)))⟩

set_option maxHeartbeats 1000000 in
theorem letsGo_out (q : DPol) (oa ia : Option Addr) (oc ic : Nat) (sa : Option Addr) (pods : List DPod) (sc : Nat) (k : DPkt) (w : World)
    (hr : rdRules w.heap.size w oa q.outs) (hd : rdPods w.heap.size w sa pods) (ho : podsOk pods) (hq : polOk q = true) (hk : pktOk k = true) :
    Calls Tryz.prog 97 #[.agg #[.int .i64 q.space, .int .i64 q.need, .int .i64 q.ban, .int .i64 q.ways, .slice oa q.outs.length oc, .slice ia q.ins.length ic], .int .i64 1, .slice sa pods.length sc, .agg #[.int .i64 k.src, .int .i64 k.dst, .int .i64 k.proto, .int .i64 k.port]] w
      fun e w' => e = .returned (.bool (letsGo pods 1 k k.dst q)) ∧ Below w.heap.size w w' := by
  have HR := hid hr
  have HD := hid hd
  have HO := hid ho
  have HQ := hid (polOk_outs hq)
  have h0 := (btw_true.1 (polOk_space hq)).1
  have h1 := (btw_true.1 (polOk_space hq)).2
  have i0 := (pktOk_dst hk).1
  have i1 := (pktOk_dst hk).2
  have hmf := mkFunc
  clear hr hd ho hq hk
  go_enter Tryz.func97, Tryz.ntmps97
  go_wp2_with (first
    | (go_at_call 92; refine (ends_out k _).mono ?_; rintro e w1 ⟨rfl, hb1⟩; obtain ⟨hc1, hf1⟩ := bcell hb1; have hz1 := hb_lt hb1; have p0 : ∀ o, (w1.alloc o).cell? ⟨w.heap.size, 0, none⟩ = some (.int .i64 q.space) := fun o => cell_past (cell_to (by simp [go_sem]) hb1); have pp0 : ∀ o o2, ((w1.alloc o).alloc o2).cell? ⟨w.heap.size, 0, none⟩ = some (.int .i64 q.space) := fun o o2 => cell_past (cell_past (cell_to (by simp [go_sem]) hb1)); have pp1 : ∀ o o2, ((w1.alloc o).alloc o2).cell? ⟨w.heap.size, 1, none⟩ = some (.int .i64 q.need) := fun o o2 => cell_past (cell_past (cell_to (by simp [go_sem]) hb1)); have pp2 : ∀ o o2, ((w1.alloc o).alloc o2).cell? ⟨w.heap.size, 2, none⟩ = some (.int .i64 q.ban) := fun o o2 => cell_past (cell_past (cell_to (by simp [go_sem]) hb1)); have pp3 : ∀ o o2, ((w1.alloc o).alloc o2).cell? ⟨w.heap.size, 3, none⟩ = some (.int .i64 q.ways) := fun o o2 => cell_past (cell_past (cell_to (by simp [go_sem]) hb1)); have pp4 : ∀ o o2, ((w1.alloc o).alloc o2).cell? ⟨w.heap.size, 4, none⟩ = some (.slice oa q.outs.length oc) := fun o o2 => cell_past (cell_past (cell_to (by simp [go_sem]) hb1)); have pp5 : ∀ o o2, ((w1.alloc o).alloc o2).cell? ⟨w.heap.size, 5, none⟩ = some (.slice ia q.ins.length ic) := fun o o2 => cell_past (cell_past (cell_to (by simp [go_sem]) hb1)))
    | (go_at_call 127; refine (rules_out q _ _ _ _ _).mono ?_; rintro e w2 ⟨rfl, hb2⟩; obtain ⟨hc2, hf2⟩ := bcell hb2; have hz2 := hb_lt hb2)
    | (go_at_call 126; refine (anyRule (ruleFits pods q.space k k.dst) _ _ _ _ _ _ _ (rdRules.to HR.out (by repeat (first | exact Below.refl _ _ | assumption | apply Ext.alloc | apply Ext.drewN | apply Ext.drew | refine Ext.trans ?_ (by assumption)))) (fun r pa qa pc qc w3 hx hz hp hq => goClo r pa qa pc qc q.space _ pods sc k.dst k _ _ _ w3 hp hq (rdPods.to (rdPods.to HD.out (by repeat (first | exact Below.refl _ _ | assumption | apply Ext.alloc | apply Ext.drewN | apply Ext.drew | refine Ext.trans ?_ (by assumption)))) hz) HO.out (HQ.out r hx) i0 i1 h0 h1 (cell_to (cell_to (by simp [go_sem]) hb2) hz) (cell_to (cell_to (by simp [go_sem]) hb2) hz) (cell_to (cell_to (by simp [go_sem]) hb2) hz) (cell_to (cell_to (cell_past (cell_past (cell_to (by simp [go_sem]) hb1))) hb2) hz) (cell_to (cell_to (cell_past (cell_past (cell_to (by simp [go_sem]) hb1))) hb2) hz) (cell_to (cell_to (cell_past (cell_past (cell_to (by simp [go_sem]) hb1))) hb2) hz) (cell_to (cell_to (cell_past (cell_past (cell_to (by simp [go_sem]) hb1))) hb2) hz))).mono ?_; rintro e w3 ⟨rfl, hb3⟩; obtain ⟨hc3, hf3⟩ := bcell hb3; have hz3 := hb_lt hb3))
  go_ret
  exact ⟨rfl, (by repeat (first | exact Below.refl _ _ | assumption | apply Ext.alloc | apply Ext.drewN | apply Ext.drew | refine Ext.trans ?_ (by assumption)))⟩

theorem rules_in (p : DPol) (oa ia : Option Addr) (oc ic : Nat) (w : World) :
    Calls Tryz.prog 127 #[.agg #[.int .i64 p.space, .int .i64 p.need, .int .i64 p.ban, .int .i64 p.ways, .slice oa p.outs.length oc, .slice ia p.ins.length ic], .int .i64 2] w fun e w' => e = .returned (.slice ia p.ins.length ic) ∧ Below w.heap.size w w' := by
  go_enter Tryz.func127, Tryz.ntmps127
  go_wp2
  go_ret
  exact ⟨rfl, (by repeat (first | exact Below.refl _ _ | assumption | apply Ext.alloc | apply Ext.drewN | apply Ext.drew | refine Ext.trans ?_ (by assumption)))⟩
theorem applies_in (q : DPol) (oa ia : Option Addr) (on inn oc ic : Nat) (p : DPod) (w : World) (hq : polOk q = true) (hp : podOk p = true) :
    Calls Tryz.prog 124 #[.agg #[.int .i64 q.space, .int .i64 q.need, .int .i64 q.ban, .int .i64 q.ways, .slice oa on oc, .slice ia inn ic], .int .i64 2, .agg #[.int .i64 p.host, .int .i64 p.ip, .int .i64 p.space, .int .i64 p.labels]] w fun e w' => e = .returned (.bool (applies 2 p q)) ∧ Below w.heap.size w w' := by
  obtain ⟨⟨n0, n1⟩, b0, b1⟩ := selOk_true.1 (polOk_sel hq)
  obtain ⟨_, _, _, l0, l1⟩ := podOk_true.1 hp
  have hw := btw_true.1 (polOk_ways hq)
  have HW := hid (ways_eq2 q.ways 2 hw.1 hw.2 (by omega))
  clear hq hp
  cases hq1 : (bits .and .i64 q.ways 2 != 0)
  · have HF := hid (show applies 2 p q = false by rw [applies, ← HW.out, hq1]; rfl)
    go_enter Tryz.func124, Tryz.ntmps124
    go_wp2
    go_ret
    exact ⟨ret_bool (by rw [HF.out]), (by repeat (first | exact Below.refl _ _ | assumption | apply Ext.alloc | apply Ext.drewN | apply Ext.drew | refine Ext.trans ?_ (by assumption)))⟩
  cases hq2 : (q.space == p.space)
  · have HF := hid (show applies 2 p q = false by rw [applies, ← HW.out, hq1, ← ibeq, hq2]; rfl)
    go_enter Tryz.func124, Tryz.ntmps124
    go_wp2
    go_ret
    exact ⟨ret_bool (by rw [HF.out]), (by repeat (first | exact Below.refl _ _ | assumption | apply Ext.alloc | apply Ext.drewN | apply Ext.drew | refine Ext.trans ?_ (by assumption)))⟩
  · have HF := hid (show applies 2 p q = sels q.need q.ban p.labels by rw [applies, ← HW.out, hq1, ← ibeq, hq2]; rfl)
    go_enter Tryz.func124, Tryz.ntmps124
    go_wp2_with (go_at_call 154; refine (selects_any _ _ _ _ _ _ _ n0 n1 b0 b1 l0 l1).mono ?_; rintro e w1 ⟨rfl, hb1⟩; obtain ⟨hc1, hf1⟩ := bcell hb1; have hz1 := hb_lt hb1)
    go_ret
    exact ⟨ret_bool (by rw [HF.out]), (by repeat (first | exact Below.refl _ _ | assumption | apply Ext.alloc | apply Ext.drewN | apply Ext.drew | refine Ext.trans ?_ (by assumption)))⟩

set_option maxHeartbeats 1000000 in
theorem letsGo_in (q : DPol) (oa ia : Option Addr) (oc ic : Nat) (sa : Option Addr) (pods : List DPod) (sc : Nat) (k : DPkt) (w : World)
    (hr : rdRules w.heap.size w ia q.ins) (hd : rdPods w.heap.size w sa pods) (ho : podsOk pods) (hq : polOk q = true) (hk : pktOk k = true) :
    Calls Tryz.prog 97 #[.agg #[.int .i64 q.space, .int .i64 q.need, .int .i64 q.ban, .int .i64 q.ways, .slice oa q.outs.length oc, .slice ia q.ins.length ic], .int .i64 2, .slice sa pods.length sc, .agg #[.int .i64 k.src, .int .i64 k.dst, .int .i64 k.proto, .int .i64 k.port]] w
      fun e w' => e = .returned (.bool (letsGo pods 2 k k.src q)) ∧ Below w.heap.size w w' := by
  have HR := hid hr
  have HD := hid hd
  have HO := hid ho
  have HQ := hid (polOk_ins hq)
  have h0 := (btw_true.1 (polOk_space hq)).1
  have h1 := (btw_true.1 (polOk_space hq)).2
  have i0 := (pktOk_src hk).1
  have i1 := (pktOk_src hk).2
  have hmf := mkFunc
  clear hr hd ho hq hk
  go_enter Tryz.func97, Tryz.ntmps97
  go_wp2_with (first
    | (go_at_call 92; refine (ends_in k _).mono ?_; rintro e w1 ⟨rfl, hb1⟩; obtain ⟨hc1, hf1⟩ := bcell hb1; have hz1 := hb_lt hb1; have p0 : ∀ o, (w1.alloc o).cell? ⟨w.heap.size, 0, none⟩ = some (.int .i64 q.space) := fun o => cell_past (cell_to (by simp [go_sem]) hb1); have pp0 : ∀ o o2, ((w1.alloc o).alloc o2).cell? ⟨w.heap.size, 0, none⟩ = some (.int .i64 q.space) := fun o o2 => cell_past (cell_past (cell_to (by simp [go_sem]) hb1)); have pp1 : ∀ o o2, ((w1.alloc o).alloc o2).cell? ⟨w.heap.size, 1, none⟩ = some (.int .i64 q.need) := fun o o2 => cell_past (cell_past (cell_to (by simp [go_sem]) hb1)); have pp2 : ∀ o o2, ((w1.alloc o).alloc o2).cell? ⟨w.heap.size, 2, none⟩ = some (.int .i64 q.ban) := fun o o2 => cell_past (cell_past (cell_to (by simp [go_sem]) hb1)); have pp3 : ∀ o o2, ((w1.alloc o).alloc o2).cell? ⟨w.heap.size, 3, none⟩ = some (.int .i64 q.ways) := fun o o2 => cell_past (cell_past (cell_to (by simp [go_sem]) hb1)); have pp4 : ∀ o o2, ((w1.alloc o).alloc o2).cell? ⟨w.heap.size, 4, none⟩ = some (.slice oa q.outs.length oc) := fun o o2 => cell_past (cell_past (cell_to (by simp [go_sem]) hb1)); have pp5 : ∀ o o2, ((w1.alloc o).alloc o2).cell? ⟨w.heap.size, 5, none⟩ = some (.slice ia q.ins.length ic) := fun o o2 => cell_past (cell_past (cell_to (by simp [go_sem]) hb1)))
    | (go_at_call 127; refine (rules_in q _ _ _ _ _).mono ?_; rintro e w2 ⟨rfl, hb2⟩; obtain ⟨hc2, hf2⟩ := bcell hb2; have hz2 := hb_lt hb2)
    | (go_at_call 126; refine (anyRule (ruleFits pods q.space k k.src) _ _ _ _ _ _ _ (rdRules.to HR.out (by repeat (first | exact Below.refl _ _ | assumption | apply Ext.alloc | apply Ext.drewN | apply Ext.drew | refine Ext.trans ?_ (by assumption)))) (fun r pa qa pc qc w3 hx hz hp hq => goClo r pa qa pc qc q.space _ pods sc k.src k _ _ _ w3 hp hq (rdPods.to (rdPods.to HD.out (by repeat (first | exact Below.refl _ _ | assumption | apply Ext.alloc | apply Ext.drewN | apply Ext.drew | refine Ext.trans ?_ (by assumption)))) hz) HO.out (HQ.out r hx) i0 i1 h0 h1 (cell_to (cell_to (by simp [go_sem]) hb2) hz) (cell_to (cell_to (by simp [go_sem]) hb2) hz) (cell_to (cell_to (by simp [go_sem]) hb2) hz) (cell_to (cell_to (cell_past (cell_past (cell_to (by simp [go_sem]) hb1))) hb2) hz) (cell_to (cell_to (cell_past (cell_past (cell_to (by simp [go_sem]) hb1))) hb2) hz) (cell_to (cell_to (cell_past (cell_past (cell_to (by simp [go_sem]) hb1))) hb2) hz) (cell_to (cell_to (cell_past (cell_past (cell_to (by simp [go_sem]) hb1))) hb2) hz))).mono ?_; rintro e w3 ⟨rfl, hb3⟩; obtain ⟨hc3, hf3⟩ := bcell hb3; have hz3 := hb_lt hb3))
  go_ret
  exact ⟨rfl, (by repeat (first | exact Below.refl _ _ | assumption | apply Ext.alloc | apply Ext.drewN | apply Ext.drew | refine Ext.trans ?_ (by assumption)))⟩
end Go.Proofs.YtmkjlhplgcifiaaGreat
namespace Go.Proofs.YtmkjlhplgcifiaaGreat
open Go.ChangeShapes Go.WideShapes Go.ChangeAt Go.RowKit
attribute [local simp] World.cell?_grow
attribute [local go_sem] World.cell?_grow
attribute [local simp] World.cell?_alloc_there
attribute [local go_sem] World.cell?_alloc_there
attribute [local go_sem] eqg_blk std_blk eqg_pod std_pod eqg_sel std_sel eqg_prt std_prt
attribute [local go_sem ↓] eql_blk eql_sel neq_sel eql_prt eql_pod
attribute [local go_sem ↓] met_in1 met_in2 met_re1 met_re2
attribute [local go_sem ↓] met_has1 met_has2
attribute [local go_sem ↓] met_bl1 met_bl2
set_option linter.unusedVariables false
set_option linter.unusedSimpArgs false

theorem own_at {α : Type} {w : World} {base : Nat} {e : TypeId} {k n c : Nat} {a : Option Addr} {l : List α} {enc : α → List Value} (hk : ∀ x, (enc x).length = k) (hp : 0 < k) (h : w.ownsRow base e k (.slice a n c) n (l.flatMap enc)) :
    ∀ i x, l[i]? = some x → ∃ b off, a = some ⟨b, off, none⟩ ∧ base ≤ b ∧ b < w.heap.size ∧ ∀ j u, (enc x)[j]? = some u → w.cell? ⟨b, off + i * k + j, none⟩ = some u := by
  obtain ⟨a', c', e', _, hc⟩ := own_slice h
  cases e'
  intro i x hx
  obtain ⟨u0, hu0⟩ : ∃ u, (enc x)[0]? = some u := ⟨(enc x)[0]'(by rw [hk]; exact hp), List.getElem?_eq_getElem (by rw [hk]; exact hp)⟩
  obtain ⟨b, rfl, hb, hb2, _⟩ := hc _ u0 ((oflat_get hk l i x 0 hx hp).trans hu0)
  refine ⟨b, 0, rfl, hb, hb2, fun j u hj => ?_⟩
  have hjk : j < k := by rw [← hk x]; exact (List.getElem?_eq_some_iff.1 hj).1
  obtain ⟨b', e', _, _, h'⟩ := hc _ u ((oflat_get hk l i x j hx hjk).trans hj)
  cases e'
  rw [Nat.zero_add]; exact h'
theorem own_snoc {α : Type} {w : World} {base : Nat} {e : TypeId} {k : Nat} {v : Value} {l : List α} {x : α} {enc : α → List Value} (h : w.ownsRow base e k v (l.length + 1) (l.flatMap enc ++ enc x)) : w.ownsRow base e k v (l ++ [x]).length ((l ++ [x]).flatMap enc) := by
  simpa using h
theorem cell_new_list2 (w : World) (o : Obj) (cs : List Value) (t : TypeId) : ∀ j u, cs[j]? = some u → ((w.alloc o).alloc (.cells cs.toArray t)).cell? ((⟨w.heap.size + 1, 0, none⟩ : Addr).add j) = some u := by
  have := cell_new_list (w.alloc o) cs t
  rwa [World.size_alloc] at this
structure DGap where
  far : DBlk
  port : DPort
def encGap (g : DGap) : List Value := [.int .i64 g.far.base, .int .i64 g.far.bits, .int .i64 g.port.proto, .int .i64 g.port.lo, .int .i64 g.port.hi]
def fgaps (r : DRule) (f : DBlk) : List DGap := (dports r).map fun p => ⟨f, p⟩
def rgaps (pods : List DPod) (space : Int) (r : DRule) : List DGap := (dfars pods space r).flatMap (fgaps r)
def gapsOf (pods : List DPod) (way : Int) (q : DPol) : List DGap := (rulesOf q way).flatMap (rgaps pods q.space)
theorem info_gap : (Tryz.prog.info? 187).map (fun i => (i.zero, i.size, i.bytes)) = some (some (.agg #[.int .i64 0, .int .i64 0, .int .i64 0, .int .i64 0, .int .i64 0]), 5, 40) := by kernel_rfl
theorem dports_le {r : DRule} (h : rulOk r = true) : (dports r).length ≤ 2 := by
  unfold dports
  split
  · simp
  · exact (rulOk_lens h).2
theorem dfars_le {pods : List DPod} {space : Int} {r : DRule} (h : rulOk r = true) (hpl : pods.length ≤ 8) : (dfars pods space r).length ≤ 130 := by
  unfold dfars
  split
  · simp
  · have := take_flat_le (space := space) (rulOk_true h).1 hpl (rulOk_lens h).1 r.peers.length
    rwa [List.take_length] at this
theorem fgaps_le {r : DRule} (h : rulOk r = true) (f : DBlk) : (fgaps r f).length ≤ 2 := by unfold fgaps; rw [List.length_map]; exact dports_le h
theorem rgaps_le {pods : List DPod} {space : Int} {r : DRule} (h : rulOk r = true) (hpl : pods.length ≤ 8) : (rgaps pods space r).length ≤ 260 := by
  have h1 := flatMap_le (f := fgaps r) (m := 2) (dfars pods space r) (fun f _ => fgaps_le h f)
  have h2 := dfars_le (space := space) h hpl
  unfold rgaps; omega
theorem gaps_pre {l : List DRule} {pods : List DPod} {space : Int} (h : ∀ r ∈ l, rulOk r = true) (hpl : pods.length ≤ 8) (k : Nat) : ((l.take k).flatMap (rgaps pods space)).length ≤ k * 260 := by
  have h1 := flatMap_le (f := rgaps pods space) (m := 260) (l.take k) (fun r hr => rgaps_le (h r (List.mem_of_mem_take hr)) hpl)
  have h2 : (l.take k).length ≤ k := by rw [List.length_take]; omega
  exact Nat.le_trans h1 (Nat.mul_le_mul_right 260 h2)
theorem gap_sum {P F S : List DGap} {k n j m t d : Nat} (hk : k < n) (hn : n ≤ 2) (hP : P.length ≤ k * 260) (hF : F.length ≤ min j m * 2) (hm : m ≤ 130) (hS : S.length = min t d) (hd : d ≤ 2) : ((P ++ F) ++ S).length + 1 ≤ 600 := by
  rw [List.length_append, List.length_append]; omega
theorem polOk_outs_len {p : DPol} (h : polOk p = true) : p.outs.length ≤ 2 := by simp only [polOk, rulesOk, few, Bool.and_eq_true, decide_eq_true_eq] at h; exact Int.ofNat_le.1 h.1.2.1.1
theorem polOk_ins_len {p : DPol} (h : polOk p = true) : p.ins.length ≤ 2 := by simp only [polOk, rulesOk, few, Bool.and_eq_true, decide_eq_true_eq] at h; exact Int.ofNat_le.1 h.2.1.1

set_option maxRecDepth 100000 in
set_option maxHeartbeats 4000000 in
theorem gaps_out (q : DPol) (oa ia : Option Addr) (oc ic : Nat) (sa : Option Addr) (pods : List DPod) (sc : Nat) (w : World) (hr : rdRules w.heap.size w oa q.outs) (hd : rdPods w.heap.size w sa pods) (ho : podsOk pods) (hpl : pods.length ≤ 8) (hq : polOk q = true) :
    Calls Tryz.prog 134 #[.agg #[.int .i64 q.space, .int .i64 q.need, .int .i64 q.ban, .int .i64 q.ways, .slice oa q.outs.length oc, .slice ia q.ins.length ic], .int .i64 1, .slice sa pods.length sc] w
      fun e w' => (∃ v, e = .returned v ∧ w'.ownsRow w.heap.size 187 5 v (gapsOf pods 1 q).length ((gapsOf pods 1 q).flatMap encGap)) ∧ Below w.heap.size w w' := by
  have HF := hid (show gapsOf pods 1 q = q.outs.flatMap (rgaps pods q.space) from rfl)
  have HR := hid hr
  have HD := hid hd
  have HO := hid ho
  have HQ := hid (polOk_outs hq)
  have hrl := polOk_outs_len hq
  have hlen := hr.1
  have h0 := (btw_true.1 (polOk_space hq)).1
  have h1 := (btw_true.1 (polOk_space hq)).2
  rw [HF.out]
  clear hr hd ho hq
  obtain ⟨i0, hi, iz0, iz1, iz2⟩ := info_parts info_gap
  go_enter Tryz.func134, Tryz.ntmps134
  go_wp2_with (go_at_call 127; refine (rules_out q _ _ _ _ _).mono ?_; rintro e w1 ⟨rfl, hb1⟩; obtain ⟨hc1, hf1⟩ := bcell hb1; have hz1 := hb_lt hb1)
  have hBa : Below w.heap.size w w1 := (by repeat (first | exact Below.refl _ _ | assumption | apply Ext.alloc | apply Ext.drewN | apply Ext.drew | refine Ext.trans ?_ (by assumption)))
  have s0 : w1.cell? ⟨w.heap.size + 1, 0, none⟩ = some (.int .i64 q.space) := cell_to (by simp [go_sem]) hb1
  have s1 : w1.cell? ⟨w.heap.size + 1, 1, none⟩ = some (.slice sa pods.length sc) := cell_to (by simp [go_sem]) hb1
  have HBa := hid hBa
  have hWs := hBa.size
  clear hBa hb1 hc1 hf1 hz1
  go_loopw [8, 23] (fun kv i wr => ∃ k : Nat, k ≤ q.outs.length ∧ i = .int .i64 k ∧ wr.ownsRow w1.heap.size 187 5 kv ((q.outs.take k).flatMap (rgaps pods q.space)).length (((q.outs.take k).flatMap (rgaps pods q.space)).flatMap encGap) ∧ Below w1.heap.size w1 wr) (fun _ i _ => q.outs.length - (intOf i).toNat)
  case atStart => exact ⟨0, Nat.zero_le _, rfl, World.ownsRow_nil _ _ _ _, Below.refl _ _⟩
  case round =>
    obtain ⟨k, hk, rfl, hown, hbw⟩ := hrel
    obtain ⟨kv0, hkv⟩ : ∃ v, v = u8 := ⟨_, rfl⟩
    obtain ⟨wa, hwa⟩ : ∃ wa, wa = wr := ⟨_, rfl⟩
    subst hkv hwa
    have HO2 := hid hown
    have HBW := hid hbw
    have HB := hid (show Below w.heap.size w wa from HBa.out.trans (hbw.mono hWs))
    have hwa := hbw.size
    clear hown
    by_cases hlt : k < q.outs.length
    · obtain ⟨r, hxk⟩ : ∃ r, q.outs[k]? = some r := ⟨q.outs[k], by simp [hlt]⟩
      have HX := hid hxk
      have hro := HQ.out r (List.mem_of_getElem? hxk)
      have HRO := hid hro
      have HT := hid (take_flat (f := rgaps pods q.space) hxk)
      have hP := gaps_pre (pods := pods) (space := q.space) HQ.out hpl k
      have hfl := dfars_le (space := q.space) hro hpl
      have hpo := dports_le hro
      clear hxk hro
      obtain ⟨b, off, rfl, hb, ⟨pa, pc, c0, hrp⟩, qa, qc, c1, hrq⟩ := HR.out.2 k r HX.out
      have d0 := cell_to c0 HB.out
      have d1 := cell_to c1 HB.out
      have t0 := cell_to s0 hbw
      have t1 := cell_to s1 hbw
      have HRP := hid hrp
      have HRQ := hid hrq
      clear hrp hrq c0 c1
      go_wp2_with (go_at_call 161; refine (fars_any r _ _ _ _ _ _ pods _ _ (rdPeers.ext (HB.out.alloc HB.out.size _) (by have := HB.out.size; simp; omega) HRP.out) (rdPods.ext (HB.out.alloc HB.out.size _) (by have := HB.out.size; simp; omega) HD.out) HO.out hpl HRO.out h0 h1).mono ?_; rintro e w2 ⟨⟨v2, rfl, ho2⟩, hb2⟩; obtain ⟨fa, fc, rfl, _, hfr⟩ := own_slice ho2; have HO3 := hid ho2; have HFR := hid hfr; have HK := hid (own_to (HO2.out.alloc (.cells #[.slice pa r.peers.length pc, .slice qa r.ports.length qc] 64)) hb2); have b0 : w2.cell? ⟨wa.heap.size, 0, none⟩ = some (.slice pa r.peers.length pc) := cell_to (by simp [go_sem]) hb2; have b1 : w2.cell? ⟨wa.heap.size, 1, none⟩ = some (.slice qa r.ports.length qc) := cell_to (by simp [go_sem]) hb2; have hs2 := hb2.size; have HB2 := hid (show Below wa.heap.size wa w2 from ((Below.refl _ wa).alloc (Nat.le_refl _) _).trans (hb2.mono (by simp))); clear ho2 hfr hb2)
      simp only [World.size_alloc] at hs2 HO3 HFR
      have HB3 := hid (show Below w.heap.size w w2 from HB.out.trans (HB2.out.mono (by have := HB.out.size; omega)))
      clear d0 d1 t0 t1
      -- the far ends
      go_loopw [8, 31] (fun kv i wq => ∃ j : Nat, j ≤ (dfars pods q.space r).length ∧ i = .int .i64 j ∧ wq.ownsRow w1.heap.size 187 5 kv (((q.outs.take k).flatMap (rgaps pods q.space)) ++ ((dfars pods q.space r).take j).flatMap (fgaps r)).length ((((q.outs.take k).flatMap (rgaps pods q.space)) ++ ((dfars pods q.space r).take j).flatMap (fgaps r)).flatMap encGap) ∧ Inv w2 kv0 wq kv) (fun _ i _ => (dfars pods q.space r).length - (intOf i).toNat)
      case atStart => exact ⟨0, Nat.zero_le _, rfl, by simpa using HK.out, Inv.refl _ _⟩
      case round =>
        obtain ⟨j, hj, rfl, hown2, hinv⟩ := hrel
        obtain ⟨kvb, hkv⟩ : ∃ v, v = u8 := ⟨_, rfl⟩
        obtain ⟨wb, hwb⟩ : ∃ wb, wb = wr := ⟨_, rfl⟩
        subst hkv hwb
        have HO4 := hid hown2
        have HI := hid hinv
        have hlow := hinv.low HO2.out (show w1.heap.size ≤ w2.heap.size by omega)
        have HBb := hid (show Below w.heap.size w wb from HB3.out.trans (hlow.mono hWs))
        have HBL := hid hlow
        have hwbs := hinv.gr.size
        have g0 := hinv.cell (own_ne HO2.out (.inr (Nat.le_refl _))) b0
        have g1 := hinv.cell (own_ne HO2.out (.inr (Nat.le_refl _))) b1
        have hjl := flatMap_le (f := fgaps r) (m := 2) ((dfars pods q.space r).take j) (fun f _ => fgaps_le HRO.out f)
        rw [List.length_take] at hjl
        clear hown2 hlow
        by_cases hlt2 : j < (dfars pods q.space r).length
        · obtain ⟨f, hfj⟩ : ∃ f, (dfars pods q.space r)[j]? = some f := ⟨(dfars pods q.space r)[j], by simp [hlt2]⟩
          have HFJ := hid hfj
          have HTF := hid (take_flat (f := fgaps r) hfj)
          obtain ⟨gf, fo, rfl, hgf, hgf2, hfc⟩ := own_at (k := 2) (fun _ => rfl) (by decide) HO3.out j f hfj
          have f0 : wb.cell? ⟨gf, fo + j * 2, none⟩ = some (.int .i64 f.base) := hinv.cell (own_ne HO2.out (.inr (show wa.heap.size ≤ gf by omega))) (hfc 0 _ rfl)
          have f1 : wb.cell? ⟨gf, fo + j * 2 + 1, none⟩ = some (.int .i64 f.bits) := hinv.cell (own_ne HO2.out (.inr (show wa.heap.size ≤ gf by omega))) (hfc 1 _ rfl)
          clear hfj hfc hinv
          go_wp2_with (go_at_call 162; refine (ports_any r _ _ _ _ w.heap.size _ (rdPorts.ext (HBb.out.alloc HBb.out.size _) (Nat.le_refl _) HRQ.out) (by have := HBb.out.size; simp; omega)).mono ?_; rintro e w3 ⟨⟨ap, cp, rfl, hps⟩, hb3⟩; have HPS := hid hps; have HK3 := hid (own_to (HO4.out.alloc (.cells #[.int .i64 f.base, .int .i64 f.bits] 47)) hb3); have e0 : w3.cell? ⟨wb.heap.size, 0, none⟩ = some (.int .i64 f.base) := cell_to (by simp [go_sem]) hb3; have e1 : w3.cell? ⟨wb.heap.size, 1, none⟩ = some (.int .i64 f.bits) := cell_to (by simp [go_sem]) hb3; have hs3 := hb3.size; have HI3 := hid ((HI.out.ext ((Below.refl _ wb).alloc (Nat.le_refl _) (.cells #[.int .i64 f.base, .int .i64 f.bits] 47))).ext hb3); clear hps hb3)
          simp only [World.size_alloc] at hs3
          have hpl2 := HPS.out.1
          clear g0 g1 f0 f1
          -- the ports
          go_loopw [8, 38] (fun kv i wc => ∃ t : Nat, t ≤ (dports r).length ∧ i = .int .i64 t ∧ wc.ownsRow w1.heap.size 187 5 kv (((q.outs.take k).flatMap (rgaps pods q.space) ++ ((dfars pods q.space r).take j).flatMap (fgaps r)) ++ ((dports r).take t).map fun p => (⟨f, p⟩ : DGap)).length ((((q.outs.take k).flatMap (rgaps pods q.space) ++ ((dfars pods q.space r).take j).flatMap (fgaps r)) ++ ((dports r).take t).map fun p => (⟨f, p⟩ : DGap)).flatMap encGap) ∧ Inv w3 kvb wc kv) (fun _ i _ => (dports r).length - (intOf i).toNat)
          case atStart => exact ⟨0, Nat.zero_le _, rfl, by simpa using HK3.out, Inv.refl _ _⟩
          case round =>
            obtain ⟨t, ht, rfl, hown5, hinv5⟩ := hrel
            have HO5 := hid hown5
            have HI5 := hid hinv5
            have hwr5 := hinv5.gr.size
            have i0' := hinv5.cell (own_ne HO4.out (.inr (Nat.le_refl _))) e0
            have i1' := hinv5.cell (own_ne HO4.out (.inr (Nat.le_refl _))) e1
            have hbase5 : w1.heap.size ≤ wr.heap.size := by omega
            clear hown5
            by_cases hlt3 : t < (dports r).length
            · obtain ⟨y, hyt⟩ : ∃ y, (dports r)[t]? = some y := ⟨(dports r)[t], by simp [hlt3]⟩
              have HY := hid hyt
              obtain ⟨bp, op, rfl, hbp, _, q0, q1, q2⟩ := HPS.out.2 t y hyt
              have hbp' : bp < w1.heap.size ∨ wb.heap.size ≤ bp := by
                rcases hbp with h | h
                · exact .inl (by omega)
                · simp only [World.size_alloc] at h; exact .inr (by omega)
              have y0 := hinv5.cell (own_ne HO4.out hbp') q0
              have y1 := hinv5.cell (own_ne HO4.out hbp') q1
              have y2 := hinv5.cell (own_ne HO4.out hbp') q2
              clear hyt q0 q1 q2 hinv5
              go_wp2_with (at_builtin; refine wpList_append_own_at _ rfl _ _ 184 rfl w1.heap.size 187 i0 _ 5 40 Tryz.underlying184 hi iz0 iz1 iz2 rfl (by decide) _ _ _ rfl ((HO5.out.alloc _).alloc _) ⟨wr.heap.size + 1, 0, none⟩ 1 1 [.int .i64 f.base, .int .i64 f.bits, .int .i64 y.proto, .int .i64 y.lo, .int .i64 y.hi] rfl rfl (cell_new_list2 _ _ [.int .i64 f.base, .int .i64 f.bits, .int .i64 y.proto, .int .i64 y.lo, .int .i64 y.hi] _) (fun u hu => by simp at hu; rcases hu with rfl | rfl | rfl | rfl | rfl <;> rfl) (by have := gap_sum hlt hrl hP hjl hfl (S := ((dports r).take t).map fun p => (⟨f, p⟩ : DGap)) (t := t) (by rw [List.length_map, List.length_take]) hpo; unfold maxLen; omega) (by have := gap_sum hlt hrl hP hjl hfl (S := ((dports r).take t).map fun p => (⟨f, p⟩ : DGap)) (t := t) (by rw [List.length_map, List.length_take]) hpo; omega) (by simp; omega) ?_; intro v' w4 hown' hg4 _ hat4)
              refine ⟨⟨t + 1, by omega, by go_num, ?_, ?_⟩, by simp [intOf]; omega⟩
              · rw [List.take_add_one, HY.out, Option.toList_some, List.map_append, ← List.append_assoc]; exact own_snoc (enc := encGap) (x := ⟨f, y⟩) hown'
              · exact (HI5.out.ext (((Below.refl _ wr).alloc (Nat.le_refl _) _).alloc (by simp) _)).trans (Inv.app hg4 hat4)
            · go_wp2
              have he : (dports r).take t = dports r := List.take_of_length_le (by omega)
              have ho5 := HO5.out
              rw [he] at ho5
              refine ⟨⟨j + 1, by omega, by go_num, ?_, HI3.out.trans HI5.out⟩, by simp [intOf]; omega⟩
              rw [HTF.out, ← List.append_assoc]; exact ho5
        · go_wp2
          have he : (dfars pods q.space r).take j = dfars pods q.space r := List.take_of_length_le (by omega)
          have ho4 := HO4.out
          rw [he] at ho4
          refine ⟨⟨k + 1, by omega, by go_num, ?_, ?_⟩, by simp [intOf]; omega⟩
          · rw [HT.out]; exact ho4
          · exact HBW.out.trans ((HB2.out.mono hwa).trans HBL.out)
    · go_wp2
      have he : q.outs.take k = q.outs := List.take_of_length_le (by omega)
      have ho := HO2.out
      rw [he] at ho
      go_ret
      exact ⟨⟨_, rfl, own_le ho hWs⟩, HB.out⟩
end Go.Proofs.YtmkjlhplgcifiaaGreat
namespace Go.Proofs.YtmkjlhplgcifiaaGreat
open Go.ChangeShapes Go.WideShapes Go.ChangeAt Go.RowKit
attribute [local simp] World.cell?_grow
attribute [local go_sem] World.cell?_grow
attribute [local simp] World.cell?_alloc_there
attribute [local go_sem] World.cell?_alloc_there
attribute [local go_sem] eqg_blk std_blk eqg_pod std_pod eqg_sel std_sel eqg_prt std_prt
attribute [local go_sem ↓] eql_blk eql_sel neq_sel eql_prt eql_pod
attribute [local go_sem ↓] met_in1 met_in2 met_re1 met_re2
attribute [local go_sem ↓] met_has1 met_has2
attribute [local go_sem ↓] met_bl1 met_bl2
set_option linter.unusedVariables false
set_option linter.unusedSimpArgs false

theorem eqg_row : Tryz.prog.eqGuardType Tryz.prog.depth 49 = false := by kernel_rfl
theorem std_row : Tryz.prog.stoodInHeld 49 = false := by kernel_rfl
attribute [local go_sem] eqg_row std_row
def rowNe (x y : DRow) : Bool := !(decide (x.sb = y.sb) && (decide (x.sn = y.sn) && (decide (x.db = y.db) && (decide (x.dn = y.dn) && (decide (x.proto = y.proto) && (decide (x.lo = y.lo) && (decide (x.hi = y.hi) && decide (x.allow = y.allow))))))))
theorem rowNe_false {x y : DRow} (h : rowNe x y = false) : x = y := by
  simp only [rowNe, Bool.not_eq_false', Bool.and_eq_true, decide_eq_true_eq] at h
  obtain ⟨h1, h2, h3, h4, h5, h6, h7, h8⟩ := h
  cases x; cases y; simp_all
set_option maxHeartbeats 4000000 in
theorem neq_row (x y : DRow) (w : World) : (binOp .neq 49 (.agg #[.int .i64 x.sb, .int .i64 x.sn, .int .i64 x.db, .int .i64 x.dn, .int .i64 x.proto, .int .i64 x.lo, .int .i64 x.hi, .bool x.allow]) (.agg #[.int .i64 y.sb, .int .i64 y.sn, .int .i64 y.db, .int .i64 y.dn, .int .i64 y.proto, .int .i64 y.lo, .int .i64 y.hi, .bool y.allow])).run Tryz.prog w = .ok (.bool (rowNe x y)) w := by
  unfold rowNe
  by_cases h1 : x.sb = y.sb
  · by_cases h2 : x.sn = y.sn
    · by_cases h3 : x.db = y.db
      · by_cases h4 : x.dn = y.dn
        · by_cases h5 : x.proto = y.proto
          · by_cases h6 : x.lo = y.lo
            · by_cases h7 : x.hi = y.hi
              · by_cases h8 : x.allow = y.allow <;> simp [go_sem, h1, h2, h3, h4, h5, h6, h7, h8]
              · simp [go_sem, h1, h2, h3, h4, h5, h6, h7]
            · simp [go_sem, h1, h2, h3, h4, h5, h6]
          · simp [go_sem, h1, h2, h3, h4, h5]
        · simp [go_sem, h1, h2, h3, h4]
      · simp [go_sem, h1, h2, h3]
    · simp [go_sem, h1, h2]
  · simp [go_sem, h1]
end Go.Proofs.YtmkjlhplgcifiaaGreat
