/-
  The document's answer: whether a peer of pods has an address.
-/
import Derived.Test.YtmkjlhplgcifiaaR5
namespace Go.Proofs.Ytmkjlhplgcifiaa
open Go.ChangeShapes Go.WideShapes Go.ChangeAt Go.RowKit
attribute [local simp] World.cell?_grow
attribute [local go_sem] World.cell?_grow
attribute [local simp] World.cell?_alloc_there
attribute [local go_sem] World.cell?_alloc_there
attribute [local go_sem] eqg_blk std_blk eqg_pod std_pod eqg_sel std_sel eqg_prt std_prt
attribute [local go_sem ↓] eql_blk eql_sel neq_sel eql_prt eql_pod
attribute [local go_sem ↓] met_in1 met_in2 met_re1 met_re2
attribute [local go_sem ↓] met_has1 met_has2
set_option linter.unusedVariables false
set_option linter.unusedSimpArgs false

theorem half_pow (s : Int) (t : Nat) : s / 2 ^ t / 2 = s / 2 ^ (t + 1) := by
  rw [Int.pow_succ, Int.ediv_ediv_of_nonneg (Int.le_of_lt (Int.pow_pos (by omega)))]
theorem peerHas_at {pods : List DPod} {space ip : Int} {x : DPeer} {p : DPod} (hk : ¬ x.kind = 2) (hp : podAt pods ip = some p) : peerHas pods space ip x = (sels x.need x.ban p.labels && (if x.spaces = 0 then decide (p.space = space) else x.spaces / 2 ^ p.space.toNat % 2 == 1)) := by
  rw [peerHas, if_neg hk, hp]
theorem peerHas_no {pods : List DPod} {space ip : Int} {x : DPeer} (hk : ¬ x.kind = 2) (hp : podAt pods ip = none) : peerHas pods space ip x = false := by
  rw [peerHas, if_neg hk, hp]

set_option maxRecDepth 100000 in
set_option maxHeartbeats 8000000 in
theorem refHasPods (x : DPeer) (ea : Option Addr) (en ec : Nat) (ip space : Int) (pods : List DPod) (pa qa : Option Addr) (pc qn qc : Nat) (w : World) (hp : rdPods w.heap.size w pa pods) (ho : podsOk pods)
    (hk : ¬ x.kind = 2) (hs : selOk x.need x.ban = true) (hs0 : 0 ≤ x.spaces) (hs1 : x.spaces ≤ 15) :
    Calls Try.prog 68 #[.agg #[.slice pa pods.length pc, .slice qa qn qc], .int .i64 space, .agg #[.int .i64 x.kind, .int .i64 x.need, .int .i64 x.ban, .int .i64 x.spaces, .int .i64 x.base, .int .i64 x.bits, .slice ea en ec], .int .i64 ip] w
      fun e w' => e = .returned (.bool (peerHas pods space ip x)) ∧ Below w.heap.size w w' := by
  have HP := hid hp
  have HK := hid hk
  have hk2 : (x.kind == 2) = false := by simp [hk]
  have hlen := hp.1
  obtain ⟨⟨n0, n1⟩, b0, b1⟩ := selOk_true.1 hs
  cases hpa : podAt pods ip with
  | none =>
    have HF := hid (peerHas_no (space := space) hk hpa)
    have HI := hid (podAt_ixn hpa)
    clear hp hk hs hpa ho
    go_enter Try.func68, Try.ntmps68
    go_wp2_with (go_at_call 46; refine (refAt_any pods ip _ _ _ _ _ _ (rdPods.to HP.out (by repeat (first | exact Below.refl _ _ | assumption | apply Ext.alloc | apply Ext.drewN | apply Ext.drew | refine Ext.trans ?_ (by assumption))))).mono ?_; rw [HI.out]; rintro e w2 ⟨rfl, hb2⟩; obtain ⟨hc2, hf2⟩ := bcell hb2; have hz2 := hb_lt hb2)
    go_ret
    exact ⟨ret_bool (by rw [HF.out]), (by repeat (first | exact Below.refl _ _ | assumption | apply Ext.alloc | apply Ext.drewN | apply Ext.drew | refine Ext.trans ?_ (by assumption)))⟩
  | some p =>
    obtain ⟨k, hk3, hix⟩ := podAt_ix hpa
    have HI := hid hix
    have HG := hid (peerHas_at (space := space) hk hpa)
    obtain ⟨_, _, ⟨s0, s1⟩, l0, l1⟩ := podOk_true.1 (ho.1 p (List.mem_of_getElem? hk3))
    have hkl : k < pods.length := (List.getElem?_eq_some_iff.1 hk3).1
    have HX := hid hk3
    obtain ⟨b, off, he, hb, c0, c1, c2, c3⟩ := hp.2 k p hk3
    subst he
    clear hp hk hs hpa ho hk3 hix
    have main : ∀ w2 : World, Below ((w.alloc (Obj.cells #[.slice (some ⟨b, off, none⟩) pods.length pc, .slice qa qn qc] 26)).alloc (Obj.cells #[.int .i64 x.kind, .int .i64 x.need, .int .i64 x.ban, .int .i64 x.spaces, .int .i64 x.base, .int .i64 x.bits, .slice ea en ec] 47)).heap.size ((w.alloc (Obj.cells #[.slice (some ⟨b, off, none⟩) pods.length pc, .slice qa qn qc] 26)).alloc (Obj.cells #[.int .i64 x.kind, .int .i64 x.need, .int .i64 x.ban, .int .i64 x.spaces, .int .i64 x.base, .int .i64 x.bits, .slice ea en ec] 47)) w2 →
        (w2.cell? ⟨w.heap.size, 0, none⟩ = some (.slice (some ⟨b, off, none⟩) pods.length pc) ∧ w2.cell? ⟨w.heap.size + 1, 1, none⟩ = some (.int .i64 x.need) ∧ w2.cell? ⟨w.heap.size + 1, 2, none⟩ = some (.int .i64 x.ban) ∧ w2.cell? ⟨w.heap.size + 1, 3, none⟩ = some (.int .i64 x.spaces)) ∧ Below w.heap.size w w2 := fun w2 h => ⟨⟨cell_to (by simp [go_sem]) h, cell_to (by simp [go_sem]) h, cell_to (by simp [go_sem]) h, cell_to (by simp [go_sem]) h⟩, (by repeat (first | exact Below.refl _ _ | assumption | apply Ext.alloc | apply Ext.drewN | apply Ext.drew | refine Ext.trans ?_ (by assumption)))⟩
    have HM := hid main
    clear main
    by_cases hz : x.spaces = 0
    · have hz2 : (x.spaces == 0) = true := by simp [hz]
      cases hq : sels x.need x.ban p.labels
      · have HF := hid (show peerHas pods space ip x = false by rw [HG.out, hq]; rfl)
        clear hz
        go_enter Try.func68, Try.ntmps68
        go_wp2_with (go_at_call 46; refine (refAt_any pods ip _ _ _ _ _ _ (rdPods.to HP.out (by repeat (first | exact Below.refl _ _ | assumption | apply Ext.alloc | apply Ext.drewN | apply Ext.drew | refine Ext.trans ?_ (by assumption))))).mono ?_; rw [HI.out]; rintro e w2 ⟨rfl, hb2⟩; obtain ⟨hc2, hf2⟩ := bcell hb2; have hz2 := hb_lt hb2; obtain ⟨⟨y0, y1, y2, y3⟩, hB⟩ := HM.out _ hb2; have d2 := cell_to c2 hB; have d3 := cell_to c3 hB; clear hc2 hf2 hz2)
        refine wp_region_grow (by kernel_rfl) (by kernel_rfl) ?_
        repeat (go_big_quiet_step (first
          | (go_at_call 47; exact Calls.grow_bool hq (refSelects_any _ _ _ _ n0 n1 b0 b1 l0 l1))))
        refine wpQuiet_nil ?_
        intro w1 hb1
        obtain ⟨hc1, hf1⟩ := bcell hb1
        have hz1 := hb_lt hb1
        have v0 := cell_to y0 hb1
        have v3 := cell_to y3 hb1
        have u2 := cell_to d2 hb1
        clear hc1 hf1 hz1
        go_wp2
        go_ret
        exact ⟨ret_bool (by rw [HF.out]), Ext.trans hB hb1⟩
      · have HF := hid (show peerHas pods space ip x = (p.space == space) by rw [HG.out, hq, if_pos hz, ibeq]; rfl)
        clear hz
        go_enter Try.func68, Try.ntmps68
        go_wp2_with (go_at_call 46; refine (refAt_any pods ip _ _ _ _ _ _ (rdPods.to HP.out (by repeat (first | exact Below.refl _ _ | assumption | apply Ext.alloc | apply Ext.drewN | apply Ext.drew | refine Ext.trans ?_ (by assumption))))).mono ?_; rw [HI.out]; rintro e w2 ⟨rfl, hb2⟩; obtain ⟨hc2, hf2⟩ := bcell hb2; have hz2 := hb_lt hb2; obtain ⟨⟨y0, y1, y2, y3⟩, hB⟩ := HM.out _ hb2; have d2 := cell_to c2 hB; have d3 := cell_to c3 hB; clear hc2 hf2 hz2)
        refine wp_region_grow (by kernel_rfl) (by kernel_rfl) ?_
        repeat (go_big_quiet_step (first
          | (go_at_call 47; exact Calls.grow_bool hq (refSelects_any _ _ _ _ n0 n1 b0 b1 l0 l1))))
        refine wpQuiet_nil ?_
        intro w1 hb1
        obtain ⟨hc1, hf1⟩ := bcell hb1
        have hz1 := hb_lt hb1
        have v0 := cell_to y0 hb1
        have v3 := cell_to y3 hb1
        have u2 := cell_to d2 hb1
        clear hc1 hf1 hz1
        go_wp2
        go_ret
        exact ⟨ret_bool (by rw [HF.out]), Ext.trans hB hb1⟩
    · have hz2 : (x.spaces == 0) = false := by simp [hz]
      obtain ⟨s, hsp⟩ := Int.eq_ofNat_of_zero_le s0
      have HE := hid (show peerHas pods space ip x = (sels x.need x.ban p.labels && (x.spaces / 2 ^ s % 2 == 1)) by rw [HG.out, if_neg hz, hsp]; rfl)
      have hsa : p.space ≤ (s : Int) := by omega
      have hsb : (s : Int) ≤ p.space := by omega
      clear hz hsp
      cases hq : sels x.need x.ban p.labels
      all_goals
        have HQ := hid hq
        go_enter Try.func68, Try.ntmps68
        go_wp2_with (go_at_call 46; refine (refAt_any pods ip _ _ _ _ _ _ (rdPods.to HP.out (by repeat (first | exact Below.refl _ _ | assumption | apply Ext.alloc | apply Ext.drewN | apply Ext.drew | refine Ext.trans ?_ (by assumption))))).mono ?_; rw [HI.out]; rintro e w2 ⟨rfl, hb2⟩; obtain ⟨hc2, hf2⟩ := bcell hb2; have hz2 := hb_lt hb2; obtain ⟨⟨y0, y1, y2, y3⟩, hB⟩ := HM.out _ hb2; have d2 := cell_to c2 hB; have d3 := cell_to c3 hB; clear hc2 hf2 hz2)
        refine wp_region_grow (by kernel_rfl) (by kernel_rfl) ?_
        repeat (go_big_quiet_step (first
          | (go_at_call 47; exact Calls.grow_bool hq (refSelects_any _ _ _ _ n0 n1 b0 b1 l0 l1))))
        refine wpQuiet_nil ?_
        intro w1 hb1
        obtain ⟨hc1, hf1⟩ := bcell hb1
        have hz1 := hb_lt hb1
        have v0 := cell_to y0 hb1
        have v3 := cell_to y3 hb1
        have u2 := cell_to d2 hb1
        clear hc1 hf1 hz1
        go_wp2
        go_loop [14, 15] (fun n i => ∃ (t : Nat) (m : Int), t ≤ s ∧ i = .int .i64 t ∧ n = .int .i64 m ∧ m = x.spaces / 2 ^ t ∧ 0 ≤ m ∧ m ≤ 15) (fun _ i => s - (intOf i).toNat)
        case atStart => exact ⟨0, x.spaces, Nat.zero_le _, rfl, rfl, by simp, hs0, hs1⟩
        case round =>
          obtain ⟨t, m, ht, rfl, rfl, hm, m0, m1⟩ := hrel
          have HN := hid hm
          clear hm
          by_cases hlt : t < s
          · have hlt2 : (t : Int) < p.space := by omega
            go_wp2
            go_round
            case rel => exact ⟨t + 1, m / 2, by omega, by go_num, by go_num, by rw [HN.out, half_pow], by omega, by omega⟩
            case measure => simp [intOf]; omega
          · have hlt2 : ¬ (t : Int) < p.space := by omega
            have e : t = s := by omega
            subst e
            have HF := hid (show peerHas pods space ip x = (sels x.need x.ban p.labels && (m % 2 == 1)) by rw [HE.out, HN.out])
            go_wp2
            go_ret
            exact ⟨ret_bool (by rw [HF.out, HQ.out]; simp), Ext.trans hB hb1⟩

theorem refHasPeer (x : DPeer) (ea : Option Addr) (ec : Nat) (ip space : Int) (pods : List DPod) (pa qa : Option Addr) (pc qn qc : Nat) (w : World) (hr : rdBlks w.heap.size w ea x.exc) (hp : rdPods w.heap.size w pa pods) (ho : podsOk pods)
    (hx : peerOk x = true) (i0 : 0 ≤ ip) (i1 : ip ≤ 4294967295) :
    Calls Try.prog 68 #[.agg #[.slice pa pods.length pc, .slice qa qn qc], .int .i64 space, .agg #[.int .i64 x.kind, .int .i64 x.need, .int .i64 x.ban, .int .i64 x.spaces, .int .i64 x.base, .int .i64 x.bits, .slice ea x.exc.length ec], .int .i64 ip] w
      fun e w' => e = .returned (.bool (peerHas pods space ip x)) ∧ Below w.heap.size w w' := by
  by_cases hk : x.kind = 1
  · obtain ⟨h1, h2, h3⟩ := peerOk_pods' hx hk
    exact refHasPods x ea _ ec ip space pods pa qa pc qn qc w hp ho (by omega) h1 h2 h3
  · obtain ⟨h1, h2, h3⟩ := peerOk_blocks' hx hk
    have := refHasBlocks x ea ec ip space pa qa pods.length pc qn qc w hr h1 h2 h3 i0 i1
    rw [show peerHas pods space ip x = (blkHas ip ⟨x.base, x.bits⟩ && !(x.exc.any (blkHas ip))) by rw [peerHas, if_pos h1]]
    exact this
end Go.Proofs.Ytmkjlhplgcifiaa
