/-
  The ports and the far ends of a rule.
-/
import Derived.Test.YtmkjlhplgcifiaaGreatJ22
import Derived.Test.YtmkjlhplgcifiaaGreatJ11
namespace Go.Proofs.YtmkjlhplgcifiaaGreat
open Go.ChangeShapes Go.WideShapes Go.ChangeAt Go.RowKit
attribute [local simp] World.cell?_grow
attribute [local go_sem] World.cell?_grow
attribute [local simp] World.cell?_alloc_there
attribute [local go_sem] World.cell?_alloc_there
attribute [local go_sem] eqg_blk std_blk eqg_pod std_pod eqg_sel std_sel eqg_prt std_prt
attribute [local go_sem ↓] eql_blk eql_sel neq_sel eql_prt eql_pod
attribute [local go_sem ↓] met_in1 met_in2 met_re1 met_re2
attribute [local go_sem ↓] met_has1 met_has2
attribute [local go_sem ↓] met_bl1 met_bl2
set_option linter.unusedVariables false
set_option linter.unusedSimpArgs false
def dports (r : DRule) : List DPort := if r.ports.length = 0 then [⟨0, 0, 65535⟩] else r.ports
def dfars (pods : List DPod) (space : Int) (r : DRule) : List DBlk := if r.peers.length = 0 then [⟨0, 0⟩] else r.peers.flatMap (pBlocks pods space)
/-- ports that lie in old blocks, or in new ones -/
def rdPortsS (B0 B1 : Nat) (w : World) (a : Option Addr) (l : List DPort) : Prop := l.length * 24 ≤ 140737488351232 ∧ ∀ i x, l[i]? = some x → ∃ b off, a = some ⟨b, off, none⟩ ∧ (b < B0 ∨ B1 ≤ b) ∧ b < w.heap.size ∧ ePort B0 w b (off + i * 3) x
theorem len_zero {α : Type} {l : List α} (h : l.length = 0) : ((l.length : Int) == 0) = true := by simp [h]
theorem len_nonzero {α : Type} {l : List α} (h : ¬ l.length = 0) : ((l.length : Int) == 0) = false := by simp [h]
theorem ports_any (r : DRule) (pa qa : Option Addr) (pc qc B0 : Nat) (w : World) (hq : rdPorts B0 w qa r.ports) (hB : B0 ≤ w.heap.size) :
    Calls Tryz.prog 162 #[.agg #[.slice pa r.peers.length pc, .slice qa r.ports.length qc]] w fun e w' => (∃ a c, e = .returned (.slice a (dports r).length c) ∧ rdPortsS B0 w.heap.size w' a (dports r)) ∧ Below w.heap.size w w' := by
  have HQ := hid hq
  have hlen := hq.1
  clear hq
  by_cases h : r.ports.length = 0
  · have HF := hid (show dports r = [⟨0, 0, 65535⟩] by rw [dports, if_pos h])
    have h2 := len_zero h
    rw [HF.out]
    go_enter Tryz.func162, Tryz.ntmps162
    go_wp2_with (go_at_call 103; refine (everyPort_any _).mono ?_; rintro e w1 ⟨rfl, hb1⟩; obtain ⟨hc1, hf1⟩ := bcell hb1; have hz1 := hb_lt hb1)
    go_ret
    refine ⟨⟨_, _, rfl, by simp, fun i x hx => ?_⟩, (by repeat (first | exact Below.refl _ _ | assumption | apply Ext.alloc | apply Ext.drewN | apply Ext.drew | refine Ext.trans ?_ (by assumption)))⟩
    have hs : Below w.heap.size w w1 := (by repeat (first | exact Below.refl _ _ | assumption | apply Ext.alloc | apply Ext.drewN | apply Ext.drew | refine Ext.trans ?_ (by assumption)))
    match i, hx with
    | 0, hx =>
      simp at hx; subst hx
      exact ⟨w1.heap.size, 0, rfl, .inr hs.size, by simp, by simp [ePort]⟩
    | i + 1, hx => simp at hx
  · have HF := hid (show dports r = r.ports by rw [dports, if_neg h])
    have h2 := len_nonzero h
    rw [HF.out]
    go_enter Tryz.func162, Tryz.ntmps162
    go_wp2
    go_ret
    refine ⟨⟨_, _, rfl, hlen, fun i x hx => ?_⟩, (by repeat (first | exact Below.refl _ _ | assumption | apply Ext.alloc | apply Ext.drewN | apply Ext.drew | refine Ext.trans ?_ (by assumption)))⟩
    obtain ⟨b, off, e, hb, he⟩ := HQ.out.2 i x hx
    exact ⟨b, off, e, .inl hb, by simp; omega, ePort.ext _ ((show Below w.heap.size w _ from (by repeat (first | exact Below.refl _ _ | assumption | apply Ext.alloc | apply Ext.drewN | apply Ext.drew | refine Ext.trans ?_ (by assumption)))).mono hB) hb he⟩
theorem flatMap_le {α β : Type} {f : α → List β} {m : Nat} : ∀ (l : List α), (∀ x ∈ l, (f x).length ≤ m) → (l.flatMap f).length ≤ l.length * m
  | [], _ => by simp
  | x :: l, h => by
    have h1 := h x (by simp)
    have h2 := flatMap_le l (fun y hy => h y (by simp [hy]))
    rw [List.flatMap_cons, List.length_append, List.length_cons, Nat.add_mul]; omega
theorem pBlocks_le {pods : List DPod} {space : Int} {x : DPeer} (hx : peerOk x = true) (hpl : pods.length ≤ 8) : (pBlocks pods space x).length ≤ 65 := by
  unfold pBlocks
  split
  · rw [List.length_map]; exact Nat.le_trans (List.length_filter_le _ _) (by omega)
  · rename_i hk
    obtain ⟨hk2, hb, he⟩ := peerOk_blocks' hx hk
    rw [peerOk, if_neg hk] at hx
    simp only [Bool.and_eq_true, few, decide_eq_true_eq] at hx
    exact wout_le 33 hb he (Int.ofNat_le.1 hx.2.1)
theorem rulOk_lens {r : DRule} (h : rulOk r = true) : r.peers.length ≤ 2 ∧ r.ports.length ≤ 2 := by
  simp only [rulOk, few, Bool.and_eq_true, decide_eq_true_eq] at h
  exact ⟨Int.ofNat_le.1 h.1.1, Int.ofNat_le.1 h.2.1⟩
theorem take_flat {α β : Type} {l : List α} {f : α → List β} {k : Nat} {x : α} (h : l[k]? = some x) : (l.take (k + 1)).flatMap f = (l.take k).flatMap f ++ f x := by
  rw [List.take_add_one, h]; simp
theorem take_flat_le {l : List DPeer} {pods : List DPod} {space : Int} (h : ∀ x ∈ l, peerOk x = true) (hpl : pods.length ≤ 8) (hl : l.length ≤ 2) (k : Nat) : ((l.take k).flatMap (pBlocks pods space)).length ≤ 130 := by
  have h1 := flatMap_le (f := pBlocks pods space) (m := 65) (l.take k) (fun x hx => pBlocks_le (h x (List.mem_of_mem_take hx)) hpl)
  have h2 : (l.take k).length ≤ 2 := by rw [List.length_take]; omega
  omega
set_option maxRecDepth 100000 in
set_option maxHeartbeats 1000000 in
theorem fars_any (r : DRule) (pa qa : Option Addr) (pc qc : Nat) (space : Int) (sa : Option Addr) (pods : List DPod) (sc : Nat) (w : World) (hp : rdPeers w.heap.size w pa r.peers) (hd : rdPods w.heap.size w sa pods) (ho : podsOk pods) (hpl : pods.length ≤ 8)
    (hr : rulOk r = true) (h0 : 0 ≤ space) (h1 : space ≤ 3) :
    Calls Tryz.prog 161 #[.agg #[.slice pa r.peers.length pc, .slice qa r.ports.length qc], .agg #[.int .i64 space, .slice sa pods.length sc]] w
      fun e w' => (∃ v, e = .returned v ∧ w'.ownsRow w.heap.size 47 2 v (dfars pods space r).length ((dfars pods space r).flatMap encBlk)) ∧ Below w.heap.size w w' := by
  have HP := hid hp
  have HD := hid hd
  have HO := hid ho
  have HOK := hid (rulOk_true hr).1
  have hl2 := (rulOk_lens hr).1
  have hlen := hp.1
  clear hp hd ho hr
  by_cases h : r.peers.length = 0
  · have HF := hid (show dfars pods space r = [⟨0, 0⟩] by rw [dfars, if_pos h])
    have h2 := len_zero h
    rw [HF.out]
    go_enter Tryz.func161, Tryz.ntmps161
    go_wp2_with (go_at_call 102; refine (allB_any _).mono ?_; rintro e w1 ⟨rfl, hb1⟩; obtain ⟨hc1, hf1⟩ := bcell hb1; have hz1 := hb_lt hb1)
    go_ret
    exact ⟨⟨_, rfl, own_built w1 [.int .i64 0, .int .i64 0] w.heap.size _ 2 1 (by have := (show Below w.heap.size w w1 from (by repeat (first | exact Below.refl _ _ | assumption | apply Ext.alloc | apply Ext.drewN | apply Ext.drew | refine Ext.trans ?_ (by assumption)))).size; omega) rfl (by unfold maxLen; omega)⟩, (by repeat (first | exact Below.refl _ _ | assumption | apply Ext.alloc | apply Ext.drewN | apply Ext.drew | refine Ext.trans ?_ (by assumption)))⟩
  · have HF := hid (show dfars pods space r = r.peers.flatMap (pBlocks pods space) by rw [dfars, if_neg h])
    have h2 := len_nonzero h
    rw [HF.out]
    obtain ⟨i0, hi, iz0, iz1, iz2⟩ := info_parts info_blk
    go_enter Tryz.func161, Tryz.ntmps161
    go_wp2
    have hBa : Below w.heap.size w ((w.alloc (.cells #[.slice pa r.peers.length pc, .slice qa r.ports.length qc] 64)).alloc (.cells #[.int .i64 space, .slice sa pods.length sc] 176)) := (by repeat (first | exact Below.refl _ _ | assumption | apply Ext.alloc | apply Ext.drewN | apply Ext.drew | refine Ext.trans ?_ (by assumption)))
    have s0 : ((w.alloc (.cells #[.slice pa r.peers.length pc, .slice qa r.ports.length qc] 64)).alloc (.cells #[.int .i64 space, .slice sa pods.length sc] 176)).cell? ⟨w.heap.size + 1, 0, none⟩ = some (.int .i64 space) := by simp [go_sem]
    have s1 : ((w.alloc (.cells #[.slice pa r.peers.length pc, .slice qa r.ports.length qc] 64)).alloc (.cells #[.int .i64 space, .slice sa pods.length sc] 176)).cell? ⟨w.heap.size + 1, 1, none⟩ = some (.slice sa pods.length sc) := by simp [go_sem]
    generalize (w.alloc (.cells #[.slice pa r.peers.length pc, .slice qa r.ports.length qc] 64)).alloc (.cells #[.int .i64 space, .slice sa pods.length sc] 176) = W at hBa s0 s1 ⊢
    have HBa := hid hBa
    have hWs := hBa.size
    clear hBa
    go_loopw [5, 17] (fun kv i wr => ∃ k : Nat, k ≤ r.peers.length ∧ i = .int .i64 k ∧ wr.ownsRow W.heap.size 47 2 kv ((r.peers.take k).flatMap (pBlocks pods space)).length (((r.peers.take k).flatMap (pBlocks pods space)).flatMap encBlk) ∧ Below W.heap.size W wr) (fun _ i _ => r.peers.length - (intOf i).toNat)
    case atStart => exact ⟨0, Nat.zero_le _, rfl, World.ownsRow_nil _ _ _ _, Below.refl _ _⟩
    case round =>
      obtain ⟨k, hk, rfl, hown, hbw⟩ := hrel
      have HO2 := hid hown
      have HBW := hid hbw
      have HB := hid (show Below w.heap.size w wr from HBa.out.trans (hbw.mono hWs))
      have hfl := take_flat_le (space := space) HOK.out hpl hl2 k
      clear hown
      by_cases hlt : k < r.peers.length
      · obtain ⟨x, hxk⟩ : ∃ x, r.peers[k]? = some x := ⟨r.peers[k], by simp [hlt]⟩
        have HX := hid hxk
        have HXO := hid (HOK.out x (List.mem_of_getElem? hxk))
        have hxl := pBlocks_le (space := space) (HOK.out x (List.mem_of_getElem? hxk)) hpl
        have HT := hid (take_flat (f := pBlocks pods space) hxk)
        clear hxk
        obtain ⟨b, off, rfl, hb, c0, c1, c2, c3, c4, c5, ea, ec, c6, hre⟩ := HP.out.2 k x HX.out
        have d0 := cell_to c0 HB.out
        have d1 := cell_to c1 HB.out
        have d2 := cell_to c2 HB.out
        have d3 := cell_to c3 HB.out
        have d4 := cell_to c4 HB.out
        have d5 := cell_to c5 HB.out
        have d6 := cell_to c6 HB.out
        have t0 := cell_to s0 hbw
        have t1 := cell_to s1 hbw
        have HRE := hid hre
        clear hre c0 c1 c2 c3 c4 c5 c6
        go_wp2_with (first
          | (go_at_call 176; refine (peerBlocks_any x _ _ _ _ _ _ _ (rdBlks.ext (HB.out.alloc HB.out.size _) (by have := HB.out.size; simp; omega) HRE.out) (rdPods.ext (HB.out.alloc HB.out.size _) (by have := HB.out.size; simp; omega) HD.out) HO.out hpl HXO.out h0 h1).mono ?_; rintro e w2 ⟨⟨a2, cc2, rfl, hr2⟩, hb2⟩; have HR2 := hid hr2; have HO3 := hid (own_to (HO2.out.alloc (.cells #[.int .i64 x.kind, .int .i64 x.need, .int .i64 x.ban, .int .i64 x.spaces, .int .i64 x.base, .int .i64 x.bits, .slice ea x.exc.length ec] 69)) hb2); have hW2 : Below W.heap.size W w2 := (HBW.out.alloc HBW.out.size _).trans (hb2.mono (by have := HBW.out.size; simp; omega)); clear hr2)
          | (at_builtin; refine wpList_append_list _ rfl _ _ 67 rfl W.heap.size 47 i0 _ 2 16 Tryz.underlying67 hi iz0 iz1 iz2 rfl (by decide) _ _ _ rfl HO3.out a2 _ cc2 ((pBlocks pods space x).flatMap encBlk) rfl (oflat_len (k := 2) (fun _ => rfl) _) (news_of (k := 2) (fun _ => rfl) (by decide) HR2.out (fun _ _ _ => eBlk_cells)) (encBlk_one _) (by unfold maxLen; omega) (by omega) hW2.size ?_; intro v' w3 hown' hg3))
        refine ⟨⟨k + 1, by omega, by go_num, ?_, own_below hW2 hW2.size HO3.out hg3⟩, by simp [intOf]; omega⟩
        rw [HT.out, List.length_append, List.flatMap_append]; exact hown'
      · go_wp2
        have he : r.peers.take k = r.peers := List.take_of_length_le (by omega)
        have ho := HO2.out
        rw [he] at ho
        go_ret
        exact ⟨⟨_, rfl, own_le ho hWs⟩, HB.out⟩
end Go.Proofs.YtmkjlhplgcifiaaGreat
