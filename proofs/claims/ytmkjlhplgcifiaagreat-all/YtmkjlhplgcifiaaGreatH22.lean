/-
  The document's answer: whether a packet may go a way.
-/
import Derived.Test.YtmkjlhplgcifiaaGreatH21
namespace Go.Proofs.YtmkjlhplgcifiaaGreat
open Go.ChangeShapes Go.WideShapes Go.ChangeAt Go.RowKit
set_option linter.unusedVariables false
set_option linter.unusedSimpArgs false
attribute [local simp] World.cell?_grow World.cell?_alloc_there
attribute [local go_sem] World.cell?_grow World.cell?_alloc_there eqg_blk std_blk eqg_pod std_pod eqg_sel std_sel eqg_prt std_prt
attribute [local go_sem ↓] eql_blk eql_sel neq_sel eql_prt eql_pod met_in1 met_in2 met_re1 met_re2 met_has1 met_has2
set_option maxRecDepth 100000 in
set_option maxHeartbeats 16000000 in
theorem refMay_in (c : DClu) (k : DPkt) (ip far : Int) (pa qa : Option Addr) (pc qc : Nat) (w : World) (hp : rdPods w.heap.size w pa c.pods) (hq : rdPols w.heap.size w qa c.pols) (hc : cluOk c) (i0 : 0 ≤ far) (i1 : far ≤ 4294967295) :
    Calls Tryz.prog 108 #[.agg #[.slice pa c.pods.length pc, .slice qa c.pols.length qc], .int .i64 2, .agg #[.int .i64 k.src, .int .i64 k.dst, .int .i64 k.proto, .int .i64 k.port], .int .i64 ip, .int .i64 far] w fun e w' => e = .returned (.bool (may c 2 k ip far)) ∧ Below w.heap.size w w' := by
  have HP := hid hp
  have HQ := hid hq
  have HC := hid hc
  have hl1 := hp.1
  have hl2 := hq.1
  clear hq hc
  cases hpa : podAt c.pods ip with
  | none =>
    have HF := hid (may_none (way := 2) (k := k) (far := far) hpa)
    have HI := hid (podAt_ixn hpa)
    clear hpa hp
    go_enter Tryz.func108, Tryz.ntmps108
    go_wp2_with (go_at_call 110; refine (refAt_any c.pods ip _ _ _ _ _ _ (rdPods.to HP.out bel)).mono ?_; rw [HI.out]; rintro e w2 ⟨rfl, hb2⟩; obtain ⟨hc2, hf2⟩ := bcell hb2; have hz2 := hb_lt hb2)
    go_ret
    exact ⟨ret_bool (by rw [HF.out]), bel⟩
  | some p =>
    have HA := hid hpa
    obtain ⟨kp, hk3, hix⟩ := podAt_ix hpa
    have HI := hid hix
    obtain ⟨_, _, _, l0, l1⟩ := podOk_true.1 (HC.out.1.1 p (List.mem_of_getElem? hk3))
    have hkl : kp < c.pods.length := (List.getElem?_eq_some_iff.1 hk3).1
    obtain ⟨pb, poff, he, hpb, p0, p1, p2, p3⟩ := hp.2 kp p hk3
    subst he
    clear hp hpa hk3 hix p0 p1
    go_enter Tryz.func108, Tryz.ntmps108
    go_wp2_with (go_at_call 110; refine (refAt_any c.pods ip _ _ _ _ _ _ (rdPods.to HP.out bel)).mono ?_; rw [HI.out]; rintro e w2 ⟨rfl, hb2⟩; obtain ⟨hc2, hf2⟩ := bcell hb2; have hz2 := hb_lt hb2)
    have xc0 : w2.cell? ⟨w.heap.size, 0, none⟩ = some (.slice (some ⟨pb, poff, none⟩) c.pods.length pc) := cell_to (by simp [go_sem]) hb2
    have xc1 : w2.cell? ⟨w.heap.size, 1, none⟩ = some (.slice qa c.pols.length qc) := cell_to (by simp [go_sem]) hb2
    have xk0 : w2.cell? ⟨w.heap.size + 1, 0, none⟩ = some (.int .i64 k.src) := cell_to (by simp [go_sem]) hb2
    have xk1 : w2.cell? ⟨w.heap.size + 1, 1, none⟩ = some (.int .i64 k.dst) := cell_to (by simp [go_sem]) hb2
    have xk2 : w2.cell? ⟨w.heap.size + 1, 2, none⟩ = some (.int .i64 k.proto) := cell_to (by simp [go_sem]) hb2
    have xk3 : w2.cell? ⟨w.heap.size + 1, 3, none⟩ = some (.int .i64 k.port) := cell_to (by simp [go_sem]) hb2
    have hB : Below w.heap.size w w2 := bel
    clear hc2 hf2 hz2 hb2
    go_loopw [12, 13] (fun ap i wr => ∃ j : Nat, j ≤ c.pols.length ∧ i = .int .i64 j ∧ ap = .bool ((c.pols.take j).any (applies 2 p)) ∧ ((c.pols.take j).any fun q => applies 2 p q && letsGo c.pods 2 k far q) = false ∧ Below w2.heap.size w2 wr) (fun _ i _ => c.pols.length - (intOf i).toNat)
    case atStart => exact ⟨0, Nat.zero_le _, rfl, rfl, rfl, Below.refl _ _⟩
    case round =>
      obtain ⟨j, hj, rfl, rfl, hall, hbw⟩ := hrel
      have HE := hid hall
      clear hall
      have hC : Below w.heap.size w wr := Ext.trans hB hbw
      have yc0 := cell_to xc0 hbw
      have yc1 := cell_to xc1 hbw
      have yk0 := cell_to xk0 hbw
      have yk1 := cell_to xk1 hbw
      have yk2 := cell_to xk2 hbw
      have yk3 := cell_to xk3 hbw
      by_cases hlt : j < c.pols.length
      · obtain ⟨x, hxk⟩ : ∃ x, c.pols[j]? = some x := ⟨c.pols[j], by simp [hlt]⟩
        have HX := hid hxk
        have hok := HC.out.2 x (List.mem_of_getElem? hxk)
        have HOK := hid hok
        obtain ⟨⟨n0, n1⟩, b0, b1⟩ := selOk_true.1 (polOk_sel hok)
        have hw := btw_true.1 (polOk_ways hok)
        have HT := hid (take_any' (f := applies 2 p) hxk)
        have HL := hid (take_any' (f := fun q => applies 2 p q && letsGo c.pods 2 k far q) hxk)
        clear hxk hok
        obtain ⟨b, off, rfl, hb, c0, c1, c2, c3, ⟨oa, oc, c4, ho⟩, ia, ic, c5, hi⟩ := HQ.out.2 j x HX.out
        have d0 := cell_to c0 hC
        have d1 := cell_to c1 hC
        have d2 := cell_to c2 hC
        have d3 := cell_to c3 hC
        have d4 := cell_to c4 hC
        have d5 := cell_to c5 hC
        have HR := hid hi
        have hlr := hi.1
        clear c0 c1 c2 c3 c4 c5 ho hi
        have yy : ∀ o, (wr.alloc o).cell? ⟨w.heap.size, 0, none⟩ = some (.slice (some ⟨pb, poff, none⟩) c.pods.length pc) := fun o => cell_past yc0
        have e3 : ∀ o, (wr.alloc o).cell? ⟨pb, poff + kp * 4 + 3, none⟩ = some (.int .i64 p.labels) := fun o => cell_past (cell_to p3 hC)
        have HAP := hid (show applies 2 p x = ((x.ways / 2 == 1) && (x.space == p.space) && sels x.need x.ban p.labels) by rw [applies, ibeq x.space]; rfl)
        cases hq1 : (x.ways / 2 == 1)
        · have HN := hid (show applies 2 p x = false by rw [HAP.out, hq1]; simp)
          cases hq2 : sels x.need x.ban p.labels
          all_goals
            go_wp2
            refine wp_region_grow (by kernel_rfl) (by kernel_rfl) ?_
            repeat (go_big_quiet_step (first
              | (go_at_call 139; exact Calls.grow_bool hq2 (refSelects_any _ _ _ _ n0 n1 b0 b1 l0 l1))))
            refine wpQuiet_nil ?_
            intro w1 hb1
            obtain ⟨hc1, hf1⟩ := bcell hb1
            have hz1 := hb_lt hb1
            obtain ⟨wv, hwv⟩ : ∃ wv, wv = w1 := ⟨_, rfl⟩
            subst hwv
            have hbv := hb1
            have v0 : wv.cell? ⟨wr.heap.size, 0, none⟩ = some (.int .i64 x.space) := cell_to (by simp [go_sem]) hbv
            have v1 : wv.cell? ⟨wr.heap.size, 1, none⟩ = some (.int .i64 x.need) := cell_to (by simp [go_sem]) hbv
            have v2 : wv.cell? ⟨wr.heap.size, 2, none⟩ = some (.int .i64 x.ban) := cell_to (by simp [go_sem]) hbv
            have v3 : wv.cell? ⟨wr.heap.size, 3, none⟩ = some (.int .i64 x.ways) := cell_to (by simp [go_sem]) hbv
            have v4 : wv.cell? ⟨wr.heap.size, 4, none⟩ = some (.slice oa x.outs.length oc) := cell_to (by simp [go_sem]) hbv
            have v5 : wv.cell? ⟨wr.heap.size, 5, none⟩ = some (.slice ia x.ins.length ic) := cell_to (by simp [go_sem]) hbv
            have zc0 := cell_to (cell_past yc0) hbv
            have zc1 := cell_to (cell_past yc1) hbv
            have zk0 := cell_to (cell_past yk0) hbv
            have zk1 := cell_to (cell_past yk1) hbv
            have zk2 := cell_to (cell_past yk2) hbv
            have zk3 := cell_to (cell_past yk3) hbv
            have s2 : wv.cell? ⟨pb, poff + kp * 4 + 2, none⟩ = some (.int .i64 p.space) := cell_to (cell_past (cell_to p2 hC)) hbv
            have hV : Below w.heap.size w wv := Ext.trans (Ext.alloc hC _) hbv
            have hU : Below w2.heap.size w2 wv := Ext.trans (Ext.alloc hbw _) hbv
            clear hb1 hc1 hf1 hz1
            go_wp2
            refine wp_region_grow (by kernel_rfl) (by kernel_rfl) ?_
            repeat (go_big_quiet_step (fail))
            refine wpQuiet_nil ?_
            intro w1 hb1
            obtain ⟨hc1, hf1⟩ := bcell hb1
            have hz1 := hb_lt hb1
            go_wp2
            exact ⟨⟨j + 1, by omega, by go_num, by rw [HT.out, HN.out, Bool.or_false], by rw [HL.out, HE.out, HN.out]; rfl, Ext.trans hU hb1⟩, by simp [intOf]; omega⟩
        cases hq2 : sels x.need x.ban p.labels
        · have HN := hid (show applies 2 p x = false by rw [HAP.out, hq2]; simp)
          go_wp2
          refine wp_region_grow (by kernel_rfl) (by kernel_rfl) ?_
          repeat (go_big_quiet_step (first
            | (go_at_call 139; exact Calls.grow_bool hq2 (refSelects_any _ _ _ _ n0 n1 b0 b1 l0 l1))))
          refine wpQuiet_nil ?_
          intro w1 hb1
          obtain ⟨hc1, hf1⟩ := bcell hb1
          have hz1 := hb_lt hb1
          obtain ⟨wv, hwv⟩ : ∃ wv, wv = w1 := ⟨_, rfl⟩
          subst hwv
          have hbv := hb1
          have v0 : wv.cell? ⟨wr.heap.size, 0, none⟩ = some (.int .i64 x.space) := cell_to (by simp [go_sem]) hbv
          have v1 : wv.cell? ⟨wr.heap.size, 1, none⟩ = some (.int .i64 x.need) := cell_to (by simp [go_sem]) hbv
          have v2 : wv.cell? ⟨wr.heap.size, 2, none⟩ = some (.int .i64 x.ban) := cell_to (by simp [go_sem]) hbv
          have v3 : wv.cell? ⟨wr.heap.size, 3, none⟩ = some (.int .i64 x.ways) := cell_to (by simp [go_sem]) hbv
          have v4 : wv.cell? ⟨wr.heap.size, 4, none⟩ = some (.slice oa x.outs.length oc) := cell_to (by simp [go_sem]) hbv
          have v5 : wv.cell? ⟨wr.heap.size, 5, none⟩ = some (.slice ia x.ins.length ic) := cell_to (by simp [go_sem]) hbv
          have zc0 := cell_to (cell_past yc0) hbv
          have zc1 := cell_to (cell_past yc1) hbv
          have zk0 := cell_to (cell_past yk0) hbv
          have zk1 := cell_to (cell_past yk1) hbv
          have zk2 := cell_to (cell_past yk2) hbv
          have zk3 := cell_to (cell_past yk3) hbv
          have s2 : wv.cell? ⟨pb, poff + kp * 4 + 2, none⟩ = some (.int .i64 p.space) := cell_to (cell_past (cell_to p2 hC)) hbv
          have hV : Below w.heap.size w wv := Ext.trans (Ext.alloc hC _) hbv
          have hU : Below w2.heap.size w2 wv := Ext.trans (Ext.alloc hbw _) hbv
          clear hb1 hc1 hf1 hz1
          go_wp2
          refine wp_region_grow (by kernel_rfl) (by kernel_rfl) ?_
          repeat (go_big_quiet_step (fail))
          refine wpQuiet_nil ?_
          intro w1 hb1
          obtain ⟨hc1, hf1⟩ := bcell hb1
          have hz1 := hb_lt hb1
          go_wp2
          exact ⟨⟨j + 1, by omega, by go_num, by rw [HT.out, HN.out, Bool.or_false], by rw [HL.out, HE.out, HN.out]; rfl, Ext.trans hU hb1⟩, by simp [intOf]; omega⟩
        by_cases hs : ¬ x.space = p.space
        · have HN := hid (show applies 2 p x = false by rw [HAP.out, ibeq]; simp [hs])
          have hs2 := bneT hs
          clear hs
          go_wp2
          refine wp_region_grow (by kernel_rfl) (by kernel_rfl) ?_
          repeat (go_big_quiet_step (first
            | (go_at_call 139; exact Calls.grow_bool hq2 (refSelects_any _ _ _ _ n0 n1 b0 b1 l0 l1))))
          refine wpQuiet_nil ?_
          intro w1 hb1
          obtain ⟨hc1, hf1⟩ := bcell hb1
          have hz1 := hb_lt hb1
          obtain ⟨wv, hwv⟩ : ∃ wv, wv = w1 := ⟨_, rfl⟩
          subst hwv
          have hbv := hb1
          have v0 : wv.cell? ⟨wr.heap.size, 0, none⟩ = some (.int .i64 x.space) := cell_to (by simp [go_sem]) hbv
          have v1 : wv.cell? ⟨wr.heap.size, 1, none⟩ = some (.int .i64 x.need) := cell_to (by simp [go_sem]) hbv
          have v2 : wv.cell? ⟨wr.heap.size, 2, none⟩ = some (.int .i64 x.ban) := cell_to (by simp [go_sem]) hbv
          have v3 : wv.cell? ⟨wr.heap.size, 3, none⟩ = some (.int .i64 x.ways) := cell_to (by simp [go_sem]) hbv
          have v4 : wv.cell? ⟨wr.heap.size, 4, none⟩ = some (.slice oa x.outs.length oc) := cell_to (by simp [go_sem]) hbv
          have v5 : wv.cell? ⟨wr.heap.size, 5, none⟩ = some (.slice ia x.ins.length ic) := cell_to (by simp [go_sem]) hbv
          have zc0 := cell_to (cell_past yc0) hbv
          have zc1 := cell_to (cell_past yc1) hbv
          have zk0 := cell_to (cell_past yk0) hbv
          have zk1 := cell_to (cell_past yk1) hbv
          have zk2 := cell_to (cell_past yk2) hbv
          have zk3 := cell_to (cell_past yk3) hbv
          have s2 : wv.cell? ⟨pb, poff + kp * 4 + 2, none⟩ = some (.int .i64 p.space) := cell_to (cell_past (cell_to p2 hC)) hbv
          have hV : Below w.heap.size w wv := Ext.trans (Ext.alloc hC _) hbv
          have hU : Below w2.heap.size w2 wv := Ext.trans (Ext.alloc hbw _) hbv
          clear hb1 hc1 hf1 hz1
          go_wp2
          refine wp_region_grow (by kernel_rfl) (by kernel_rfl) ?_
          repeat (go_big_quiet_step (fail))
          refine wpQuiet_nil ?_
          intro w1 hb1
          obtain ⟨hc1, hf1⟩ := bcell hb1
          have hz1 := hb_lt hb1
          go_wp2
          exact ⟨⟨j + 1, by omega, by go_num, by rw [HT.out, HN.out, Bool.or_false], by rw [HL.out, HE.out, HN.out]; rfl, Ext.trans hU hb1⟩, by simp [intOf]; omega⟩
        have hs := Decidable.not_not.1 hs
        have HN := hid (show applies 2 p x = true by rw [HAP.out, hq1, hq2, hs]; simp)
        have hs2 := bneF hs
        have HLG := hid (show letsGo c.pods 2 k far x = x.ins.any (ruleFits c.pods x.space k far) from rfl)
        have HSP := hid hs
        clear hs
        go_wp2
        refine wp_region_grow (by kernel_rfl) (by kernel_rfl) ?_
        repeat (go_big_quiet_step (first
          | (go_at_call 139; exact Calls.grow_bool hq2 (refSelects_any _ _ _ _ n0 n1 b0 b1 l0 l1))))
        refine wpQuiet_nil ?_
        intro w1 hb1
        obtain ⟨hc1, hf1⟩ := bcell hb1
        have hz1 := hb_lt hb1
        obtain ⟨wv, hwv⟩ : ∃ wv, wv = w1 := ⟨_, rfl⟩
        subst hwv
        have hbv := hb1
        have v0 : wv.cell? ⟨wr.heap.size, 0, none⟩ = some (.int .i64 x.space) := cell_to (by simp [go_sem]) hbv
        have v1 : wv.cell? ⟨wr.heap.size, 1, none⟩ = some (.int .i64 x.need) := cell_to (by simp [go_sem]) hbv
        have v2 : wv.cell? ⟨wr.heap.size, 2, none⟩ = some (.int .i64 x.ban) := cell_to (by simp [go_sem]) hbv
        have v3 : wv.cell? ⟨wr.heap.size, 3, none⟩ = some (.int .i64 x.ways) := cell_to (by simp [go_sem]) hbv
        have v4 : wv.cell? ⟨wr.heap.size, 4, none⟩ = some (.slice oa x.outs.length oc) := cell_to (by simp [go_sem]) hbv
        have v5 : wv.cell? ⟨wr.heap.size, 5, none⟩ = some (.slice ia x.ins.length ic) := cell_to (by simp [go_sem]) hbv
        have zc0 := cell_to (cell_past yc0) hbv
        have zc1 := cell_to (cell_past yc1) hbv
        have zk0 := cell_to (cell_past yk0) hbv
        have zk1 := cell_to (cell_past yk1) hbv
        have zk2 := cell_to (cell_past yk2) hbv
        have zk3 := cell_to (cell_past yk3) hbv
        have s2 : wv.cell? ⟨pb, poff + kp * 4 + 2, none⟩ = some (.int .i64 p.space) := cell_to (cell_past (cell_to p2 hC)) hbv
        have hV : Below w.heap.size w wv := Ext.trans (Ext.alloc hC _) hbv
        have hU : Below w2.heap.size w2 wv := Ext.trans (Ext.alloc hbw _) hbv
        clear hb1 hc1 hf1 hz1
        go_wp2
        refine wp_region_grow (by kernel_rfl) (by kernel_rfl) ?_
        repeat (go_big_quiet_step (fail))
        refine wpQuiet_nil ?_
        intro w1 hb1
        obtain ⟨hc1, hf1⟩ := bcell hb1
        have hz1 := hb_lt hb1
        have vv0 := cell_to v0 hb1
        have zzc0 := cell_to zc0 hb1
        have zzc1 := cell_to zc1 hb1
        have zzk0 := cell_to zk0 hb1
        have zzk1 := cell_to zk1 hb1
        have zzk2 := cell_to zk2 hb1
        have zzk3 := cell_to zk3 hb1
        have hS : Below w.heap.size w w1 := Ext.trans hV hb1
        have hT : Below w2.heap.size w2 w1 := Ext.trans hU hb1
        obtain ⟨wo, hwo⟩ : ∃ wo, wo = wr := ⟨_, rfl⟩
        subst hwo
        obtain ⟨wx, hwx⟩ : ∃ wx, wx = w1 := ⟨_, rfl⟩
        subst hwx
        clear hc1 hf1 hz1 hb1
        go_wp2
        go_loopw [18] (fun i wr => ∃ t : Nat, t ≤ x.ins.length ∧ i = .int .i64 t ∧ (x.ins.take t).any (ruleFits c.pods x.space k far) = false ∧ Below wx.heap.size wx wr) (fun i _ => x.ins.length - (intOf i).toNat)
        case atStart => exact ⟨0, Nat.zero_le _, rfl, rfl, Below.refl _ _⟩
        case round =>
          obtain ⟨t, ht, rfl, hall, hbz⟩ := hrel
          have HB := hid hall
          clear hall
          have hZ : Below w.heap.size w wr := Ext.trans hS hbz
          have r0 := cell_to vv0 hbz
          have rc0 := cell_to zzc0 hbz
          have rc1 := cell_to zzc1 hbz
          have rk0 := cell_to zzk0 hbz
          have rk1 := cell_to zzk1 hbz
          have rk2 := cell_to zzk2 hbz
          have rk3 := cell_to zzk3 hbz
          by_cases hlt2 : t < x.ins.length
          · obtain ⟨y, hyk⟩ : ∃ y, x.ins[t]? = some y := ⟨x.ins[t], by simp [hlt2]⟩
            have HY := hid hyk
            have HYO := hid (polOk_ins HOK.out y (List.mem_of_getElem? hyk))
            clear hyk
            obtain ⟨b3, off3, rfl, hb3, ⟨ga, gc, f0, hg1⟩, ha, hcc, f1, hg2⟩ := HR.out.2 t y HY.out
            have m0 := cell_to f0 hZ
            have m1 := cell_to f1 hZ
            have HY1 := hid hg1
            have HY2 := hid hg2
            clear f0 f1 hg1 hg2
            cases hf : ruleFits c.pods x.space k far y
            · go_wp2
              refine wp_region_grow (by kernel_rfl) (by kernel_rfl) ?_
              repeat (go_big_quiet_step (first
                | (go_at_call 140; exact Calls.grow_bool hf (refFits_any y _ _ _ _ _ c.pods _ _ _ _ _ k _ _ (rdPeers.to (rdPeers.to HY1.out hZ) (World.below_grow _ _)) (rdPorts.to (rdPorts.to HY2.out hZ) (World.below_grow _ _)) (rdPods.to (rdPods.to HP.out hZ) (World.below_grow _ _)) HC.out.1 HYO.out i0 i1))))
              refine wpQuiet_nil ?_
              intro w1 hb1
              obtain ⟨hc1, hf1⟩ := bcell hb1
              have hz1 := hb_lt hb1
              go_wp2
              exact ⟨⟨t + 1, by omega, by go_num, take_any HY.out HB.out hf, Ext.trans hbz hb1⟩, by simp [intOf]; omega⟩
            · have HF := hid (may_true (k := k) (far := far) HA.out HX.out HN.out (by rw [HLG.out]; exact any_true HY.out hf))
              go_wp2
              refine wp_region_grow (by kernel_rfl) (by kernel_rfl) ?_
              repeat (go_big_quiet_step (first
                | (go_at_call 140; exact Calls.grow_bool hf (refFits_any y _ _ _ _ _ c.pods _ _ _ _ _ k _ _ (rdPeers.to (rdPeers.to HY1.out hZ) (World.below_grow _ _)) (rdPorts.to (rdPorts.to HY2.out hZ) (World.below_grow _ _)) (rdPods.to (rdPods.to HP.out hZ) (World.below_grow _ _)) HC.out.1 HYO.out i0 i1))))
              refine wpQuiet_nil ?_
              intro w1 hb1
              obtain ⟨hc1, hf1⟩ := bcell hb1
              have hz1 := hb_lt hb1
              go_wp2
              go_ret
              exact ⟨ret_bool (by rw [HF.out]), Ext.trans hZ hb1⟩
          · have HB2 := hid (show letsGo c.pods 2 k far x = false by have := HB.out; rw [List.take_of_length_le (by omega)] at this; rw [HLG.out]; exact this)
            go_wp2
            exact ⟨⟨j + 1, by omega, by go_num, by rw [HT.out, HN.out, Bool.or_true], by rw [HL.out, HE.out, HN.out, HB2.out]; rfl, Ext.trans hT hbz⟩, by simp [intOf]; omega⟩
      · have e : c.pols.take j = c.pols := List.take_of_length_le (by omega)
        have HE2 := hid (show (c.pols.any fun q => applies 2 p q && letsGo c.pods 2 k far q) = false by rw [← e]; exact HE.out)
        have HF := hid (may_some HA.out HE2.out)
        have HT := hid e
        clear e
        rw [HT.out]
        go_wp2
        go_ret
        exact ⟨ret_bool (by rw [HF.out]), hC⟩
end Go.Proofs.YtmkjlhplgcifiaaGreat
