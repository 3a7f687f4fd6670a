/-
  The document's answer: whether a rule fits.
-/
import Derived.Test.YtmkjlhplgcifiaaR6
namespace Go.Proofs.Ytmkjlhplgcifiaa
open Go.ChangeShapes Go.WideShapes Go.ChangeAt Go.RowKit
attribute [local simp] World.cell?_grow
attribute [local go_sem] World.cell?_grow
attribute [local simp] World.cell?_alloc_there
attribute [local go_sem] World.cell?_alloc_there
attribute [local go_sem] eqg_blk std_blk eqg_pod std_pod eqg_sel std_sel eqg_prt std_prt
attribute [local go_sem ↓] eql_blk eql_sel neq_sel eql_prt eql_pod
attribute [local go_sem ↓] met_in1 met_in2 met_re1 met_re2
attribute [local go_sem ↓] met_has1 met_has2
set_option linter.unusedVariables false
set_option linter.unusedSimpArgs false

theorem eoa_eq {α : Type} (l : List α) (f : α → Bool) : eoa l f = (((l.length : Int) == 0) || l.any f) := by
  rw [eoa, ibeq]; congr 1; simp

set_option maxRecDepth 100000 in
set_option maxHeartbeats 8000000 in
theorem refFits_any (r : DRule) (ra rb : Option Addr) (rc rd : Nat) (space : Int) (pods : List DPod) (pa qa : Option Addr) (pc qn qc : Nat) (k : DPkt) (far : Int) (w : World)
    (hr : rdPeers w.heap.size w ra r.peers) (hs : rdPorts w.heap.size w rb r.ports) (hp : rdPods w.heap.size w pa pods) (ho : podsOk pods) (hx : rulOk r = true) (i0 : 0 ≤ far) (i1 : far ≤ 4294967295) :
    Calls Try.prog 48 #[.agg #[.slice pa pods.length pc, .slice qa qn qc], .int .i64 space, .agg #[.slice ra r.peers.length rc, .slice rb r.ports.length rd], .agg #[.int .i64 k.src, .int .i64 k.dst, .int .i64 k.proto, .int .i64 k.port], .int .i64 far] w
      fun e w' => e = .returned (.bool (ruleFits pods space k far r)) ∧ Below w.heap.size w w' := by
  have HR := hid hr
  have HS := hid hs
  have HP := hid hp
  have HO := hid ho
  have HX := hid (rulOk_true hx)
  have hl1 := hr.1
  have hl2 := hs.1
  clear hr hs hp ho hx
  have HF := hid (show ruleFits pods space k far r = (eoa r.peers (peerHas pods space far) && eoa r.ports (prtFits k)) from rfl)
  go_enter Try.func48, Try.ntmps48
  go_wp2
  obtain ⟨W, hW⟩ : ∃ W, W = (((w.alloc (Obj.cells #[.slice pa pods.length pc, .slice qa qn qc] 26)).alloc (Obj.cells #[.slice ra r.peers.length rc, .slice rb r.ports.length rd] 53)).alloc (Obj.cells #[.int .i64 k.src, .int .i64 k.dst, .int .i64 k.proto, .int .i64 k.port] 28)) := ⟨_, rfl⟩
  have x0 : W.cell? ⟨w.heap.size, 0, none⟩ = some (.slice pa pods.length pc) := by rw [hW]; simp [go_sem]
  have x1 : W.cell? ⟨w.heap.size, 1, none⟩ = some (.slice qa qn qc) := by rw [hW]; simp [go_sem]
  have x2 : W.cell? ⟨w.heap.size + 1, 0, none⟩ = some (.slice ra r.peers.length rc) := by rw [hW]; simp [go_sem]
  have x3 : W.cell? ⟨w.heap.size + 1, 1, none⟩ = some (.slice rb r.ports.length rd) := by rw [hW]; simp [go_sem]
  have x4 : W.cell? ⟨w.heap.size + 2, 2, none⟩ = some (.int .i64 k.proto) := by rw [hW]; simp [go_sem]
  have x5 : W.cell? ⟨w.heap.size + 2, 3, none⟩ = some (.int .i64 k.port) := by rw [hW]; simp [go_sem]
  have hB0 : Below w.heap.size w W := by rw [hW]; exact (by repeat (first | exact Below.refl _ _ | assumption | apply Ext.alloc | apply Ext.drewN | apply Ext.drew | refine Ext.trans ?_ (by assumption)))
  rw [← hW]
  clear hW
  go_loopw [11, 12] (fun a i wr => ∃ t : Nat, t ≤ r.peers.length ∧ i = .int .i64 t ∧ a = .bool (((r.peers.length : Int) == 0) || (r.peers.take t).any (peerHas pods space far)) ∧ Below W.heap.size W wr) (fun _ i _ => r.peers.length - (intOf i).toNat)
  case atStart => exact ⟨0, Nat.zero_le _, rfl, by simp, Below.refl _ _⟩
  case round =>
    obtain ⟨t, ht, rfl, rfl, hbw⟩ := hrel
    have hC : Below w.heap.size w wr := Ext.trans hB0 hbw
    have y0 := cell_to x0 hbw
    have y1 := cell_to x1 hbw
    have y2 := cell_to x2 hbw
    have y3 := cell_to x3 hbw
    have y4 := cell_to x4 hbw
    have y5 := cell_to x5 hbw
    by_cases hlt : t < r.peers.length
    · obtain ⟨y, hyk⟩ : ∃ y, r.peers[t]? = some y := ⟨r.peers[t], by simp [hlt]⟩
      have HY := hid hyk
      have HT := hid (take_any' (f := peerHas pods space far) hyk)
      have HV := hid (HX.out.1 y (List.mem_of_getElem? hyk))
      clear hyk
      obtain ⟨b, off, rfl, hb, f0, f1, f2, f3, f4, f5, ea, ec, f6, hre⟩ := HR.out.2 t y HY.out
      have g0 := cell_to f0 hC
      have g1 := cell_to f1 hC
      have g2 := cell_to f2 hC
      have g3 := cell_to f3 hC
      have g4 := cell_to f4 hC
      have g5 := cell_to f5 hC
      have g6 := cell_to f6 hC
      have HE := hid hre
      clear f0 f1 f2 f3 f4 f5 f6 hre
      generalize hg : (((r.peers.length : Int) == 0) || (r.peers.take t).any (peerHas pods space far)) = g
      have HH := hid (show (((r.peers.length : Int) == 0) || (r.peers.take (t + 1)).any (peerHas pods space far)) = (g || peerHas pods space far y) by rw [HT.out, ← Bool.or_assoc, hg])
      clear hg
      cases g
      · go_wp2
        refine wp_region_grow (by kernel_rfl) (by kernel_rfl) ?_
        repeat (go_big_quiet_step (first
          | (go_at_call 68; exact Calls.grow_of (refHasPeer y _ _ _ _ pods _ _ _ _ _ _ (rdBlks.to (rdBlks.to HE.out hC) (World.below_grow _ _)) (rdPods.to (rdPods.to HP.out hC) (World.below_grow _ _)) HO.out HV.out i0 i1))))
        refine wpQuiet_nil ?_
        intro w1 hb1
        obtain ⟨hc1, hf1⟩ := bcell hb1
        have hz1 := hb_lt hb1
        go_wp2
        exact ⟨⟨t + 1, by omega, by go_num, by rw [HH.out]; simp, Ext.trans hbw hb1⟩, by simp [intOf]; omega⟩
      · go_wp2
        refine wp_region_grow (by kernel_rfl) (by kernel_rfl) ?_
        repeat (go_big_quiet_step (first
          | (go_at_call 68; exact Calls.grow_of (refHasPeer y _ _ _ _ pods _ _ _ _ _ _ (rdBlks.to (rdBlks.to HE.out hC) (World.below_grow _ _)) (rdPods.to (rdPods.to HP.out hC) (World.below_grow _ _)) HO.out HV.out i0 i1))))
        refine wpQuiet_nil ?_
        intro w1 hb1
        obtain ⟨hc1, hf1⟩ := bcell hb1
        have hz1 := hb_lt hb1
        go_wp2
        exact ⟨⟨t + 1, by omega, by go_num, by rw [HH.out]; simp, Ext.trans hbw hb1⟩, by simp [intOf]; omega⟩
    · have e : r.peers.take t = r.peers := List.take_of_length_le (by omega)
      have HG := hid (show (((r.peers.length : Int) == 0) || (r.peers.take t).any (peerHas pods space far)) = eoa r.peers (peerHas pods space far) by rw [e, eoa_eq])
      rw [HG.out]
      clear e
      obtain ⟨wa, hwa⟩ : ∃ wa, wa = wr := ⟨_, rfl⟩
      subst hwa
      go_wp2
      go_loopw [14, 15] (fun a i wr => ∃ t : Nat, t ≤ r.ports.length ∧ i = .int .i64 t ∧ a = .bool (((r.ports.length : Int) == 0) || (r.ports.take t).any (prtFits k)) ∧ Below wa.heap.size wa wr) (fun _ i _ => r.ports.length - (intOf i).toNat)
      case atStart => exact ⟨0, Nat.zero_le _, rfl, by simp, Below.refl _ _⟩
      case round =>
        obtain ⟨t2, ht2, rfl, rfl, hbv⟩ := hrel
        have hD : Below w.heap.size w wr := Ext.trans hC hbv
        have z3 := cell_to y3 hbv
        have z4 := cell_to y4 hbv
        have z5 := cell_to y5 hbv
        have q4 : ∀ o, (wr.alloc o).cell? ⟨w.heap.size + 2, 2, none⟩ = some (.int .i64 k.proto) := fun o => cell_past z4
        have q5 : ∀ o, (wr.alloc o).cell? ⟨w.heap.size + 2, 3, none⟩ = some (.int .i64 k.port) := fun o => cell_past z5
        by_cases hlt2 : t2 < r.ports.length
        · obtain ⟨y, hyk⟩ : ∃ y, r.ports[t2]? = some y := ⟨r.ports[t2], by simp [hlt2]⟩
          have HY := hid hyk
          have HT := hid (take_any' (f := prtFits k) hyk)
          clear hyk
          obtain ⟨b, off, rfl, hb, f0, f1, f2⟩ := HS.out.2 t2 y HY.out
          have g0 := cell_to f0 hD
          have g1 := cell_to f1 hD
          have g2 := cell_to f2 hD
          clear f0 f1 f2
          generalize hg : (((r.ports.length : Int) == 0) || (r.ports.take t2).any (prtFits k)) = g
          have HH := hid (show (((r.ports.length : Int) == 0) || (r.ports.take (t2 + 1)).any (prtFits k)) = (g || prtFits k y) by rw [HT.out, ← Bool.or_assoc, hg])
          clear hg
          cases g
          · have HV := hid (show prtFits k y = (((y.proto == 0) || (y.proto == k.proto)) && (decide (y.lo ≤ k.port) && decide (k.port ≤ y.hi))) by rw [prtFits, btw, ibeq, ibeq])
            cases k1 : (y.proto == 0) <;> cases k2 : (y.proto == k.proto) <;> by_cases k3 : y.lo ≤ k.port
            all_goals
              have HU := hid (show prtFits k y = _ by rw [HV.out, k1, k2])
              go_wp2
              exact ⟨⟨t2 + 1, by omega, by go_num, by rw [HH.out, HU.out]; simp [k3], Ext.alloc hbv _⟩, by simp [intOf]; omega⟩
          · go_wp2
            exact ⟨⟨t2 + 1, by omega, by go_num, by rw [HH.out]; simp, Ext.alloc hbv _⟩, by simp [intOf]; omega⟩
        · have e : r.ports.take t2 = r.ports := List.take_of_length_le (by omega)
          have HI := hid (show (((r.ports.length : Int) == 0) || (r.ports.take t2).any (prtFits k)) = eoa r.ports (prtFits k) by rw [e, eoa_eq])
          rw [HI.out]
          clear e
          cases hq : eoa r.peers (peerHas pods space far)
          · have HQ := hid hq
            go_wp2
            go_ret
            exact ⟨ret_bool (by rw [HF.out, HQ.out]; rfl), hD⟩
          · have HQ := hid hq
            go_wp2
            go_ret
            exact ⟨ret_bool (by rw [HF.out, HQ.out]; rfl), hD⟩
end Go.Proofs.Ytmkjlhplgcifiaa
