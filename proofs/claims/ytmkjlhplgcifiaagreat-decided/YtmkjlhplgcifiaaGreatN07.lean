/-
  The document's answer: when rules and a policy are right.
  The document's answer: when a policy is right.
  Rules and policies: what fits, what applies, what is let go.
-/
import Derived.Test.YtmkjlhplgcifiaaGreatN06
import Derived.Test.YtmkjlhplgcifiaaGreatN04
namespace Go.Proofs.YtmkjlhplgcifiaaGreat
open Go.ChangeShapes Go.WideShapes Go.ChangeAt Go.RowKit
attribute [local simp] World.cell?_grow
attribute [local go_sem] World.cell?_grow
attribute [local simp] World.cell?_alloc_there
attribute [local go_sem] World.cell?_alloc_there
attribute [local go_sem] eqg_blk std_blk eqg_pod std_pod eqg_sel std_sel eqg_prt std_prt
attribute [local go_sem ↓] eql_blk eql_sel neq_sel eql_prt eql_pod
attribute [local go_sem ↓] met_in1 met_in2 met_re1 met_re2
attribute [local go_sem ↓] met_has1 met_has2
set_option linter.unusedVariables false
set_option linter.unusedSimpArgs false
theorem rulOk_split (r : DRule) (h1 : (r.peers.length : Int) ≤ 2) (h2 : (r.ports.length : Int) ≤ 2) : rulOk r = (r.peers.all peerOk && r.ports.all prtOk) := by simp [rulOk, few, h1, h2]
theorem rulOk_many (r : DRule) (h : ¬ ((r.peers.length : Int) ≤ 2) ∨ ¬ ((r.ports.length : Int) ≤ 2)) : rulOk r = false := by
  rcases h with h | h <;> simp [rulOk, few, h]
set_option maxRecDepth 100000 in
set_option maxHeartbeats 8000000 in
theorem refRules_any (l : List DRule) (a : Option Addr) (cap : Nat) (way : Bool) (w : World) (hr : rdRules w.heap.size w a l) :
    Calls Tryz.prog 138 #[.slice a l.length cap, .bool way] w fun e w' => e = .returned (.bool (rulesOk l way)) ∧ Below w.heap.size w w' := by
  have HR := hid hr
  have hlen := hr.1
  clear hr
  by_cases hl : ¬ (l.length : Int) ≤ 2
  · have HF := hid (show rulesOk l way = false by simp [rulesOk, few, hl])
    go_enter Tryz.func138, Tryz.ntmps138
    go_wp2
    go_ret
    exact ⟨ret_bool (by rw [HF.out]), (by repeat (first | exact Below.refl _ _ | assumption | apply Ext.alloc | apply Ext.drewN | apply Ext.drew | refine Ext.trans ?_ (by assumption)))⟩
  have hl := Decidable.not_not.1 hl
  by_cases hw : way = false ∧ 0 < l.length
  · obtain ⟨rfl, h0⟩ := hw
    have HF := hid (show rulesOk l false = false by
      have : ¬ l.length = 0 := by omega
      simp [rulesOk, this])
    go_enter Tryz.func138, Tryz.ntmps138
    go_wp2
    go_ret
    exact ⟨ret_bool (by rw [HF.out]), (by repeat (first | exact Below.refl _ _ | assumption | apply Ext.alloc | apply Ext.drewN | apply Ext.drew | refine Ext.trans ?_ (by assumption)))⟩
  have HF := hid (show rulesOk l way = l.all rulOk by
    have h2 : (way || decide (l.length = 0)) = true := by
      cases way
      · have : l.length = 0 := by
          rcases Nat.eq_zero_or_pos l.length with h | h
          · exact h
          · exact absurd ⟨rfl, h⟩ hw
        simp [this]
      · rfl
    rw [rulesOk, h2, few]
    simp [hl])
  have hw2 : way = false → (l.length : Int) = 0 := fun h => by
    rcases Nat.eq_zero_or_pos l.length with h' | h'
    · omega
    · exact absurd ⟨h, h'⟩ hw
  clear hw
  have key : Calls Tryz.prog 138 #[.slice a l.length cap, .bool way] w fun e w' => e = .returned (.bool (l.all rulOk)) ∧ Below w.heap.size w w' := by
    cases way
    · have hw3 := hw2 rfl
      clear hw2 HF
      go_enter Tryz.func138, Tryz.ntmps138
      go_wp2
      go_loopw [5] (fun i wr => ∃ k : Nat, k ≤ l.length ∧ i = .int .i64 k ∧ (l.take k).all rulOk = true ∧ Below w.heap.size w wr) (fun i _ => l.length - (intOf i).toNat)
      case atStart => exact ⟨0, Nat.zero_le _, rfl, rfl, Below.refl _ _⟩
      case round =>
        obtain ⟨k, hk, rfl, hall, hbw⟩ := hrel
        have HA := hid hall
        clear hall
        have hk2 : ¬ k < l.length := by omega
        go_wp2
        go_ret
        have := HA.out
        rw [List.take_of_length_le (by omega)] at this
        exact ⟨ret_bool (by rw [this]), hbw⟩
    · clear hw2 HF
      go_enter Tryz.func138, Tryz.ntmps138
      go_wp2
      go_loopw [5] (fun i wr => ∃ k : Nat, k ≤ l.length ∧ i = .int .i64 k ∧ (l.take k).all rulOk = true ∧ Below w.heap.size w wr) (fun i _ => l.length - (intOf i).toNat)
      case atStart => exact ⟨0, Nat.zero_le _, rfl, rfl, Below.refl _ _⟩
      case round =>
        obtain ⟨k, hk, rfl, hall, hbw⟩ := hrel
        have HA := hid hall
        clear hall
        by_cases hlt : k < l.length
        · obtain ⟨x, hxk⟩ : ∃ x, l[k]? = some x := ⟨l[k], by simp [hlt]⟩
          have HX := hid hxk
          clear hxk
          obtain ⟨b, off, rfl, hb, ⟨pa, pc, c0, hrp⟩, qa, qc, c1, hrq⟩ := HR.out.2 k x HX.out
          have HP := hid hrp
          have HQ := hid hrq
          have hlp := hrp.1
          have hlq := hrq.1
          have d0 := cell_to c0 hbw
          have d1 := cell_to c1 hbw
          by_cases hm : ¬ (x.peers.length : Int) ≤ 2
          · have HG := hid (rulOk_many x (Or.inl hm))
            clear hrp hrq
            go_wp2
            go_ret
            exact ⟨ret_bool (by rw [all_false HX.out HG.out]), hbw⟩
          have hm := Decidable.not_not.1 hm
          by_cases hn : ¬ (x.ports.length : Int) ≤ 2
          · have HG := hid (rulOk_many x (Or.inr hn))
            clear hrp hrq
            go_wp2
            go_ret
            exact ⟨ret_bool (by rw [all_false HX.out HG.out]), hbw⟩
          have hn := Decidable.not_not.1 hn
          have HG := hid (rulOk_split x hm hn)
          clear hrp hrq
          obtain ⟨wa, hwa⟩ : ∃ wa, wa = wr := ⟨_, rfl⟩
          subst hwa
          go_wp2
          go_loopw [6] (fun i wr => ∃ j : Nat, j ≤ x.peers.length ∧ i = .int .i64 j ∧ (x.peers.take j).all peerOk = true ∧ Below wa.heap.size wa wr) (fun i _ => x.peers.length - (intOf i).toNat)
          case atStart => exact ⟨0, Nat.zero_le _, rfl, rfl, Below.refl _ _⟩
          case round =>
            obtain ⟨j, hj, rfl, hall, hbv⟩ := hrel
            have HB := hid hall
            clear hall
            have hC : Below w.heap.size w wr := Ext.trans hbw hbv
            have e0 := cell_to d0 hbv
            have e1 := cell_to d1 hbv
            by_cases hlt2 : j < x.peers.length
            · obtain ⟨y, hyk⟩ : ∃ y, x.peers[j]? = some y := ⟨x.peers[j], by simp [hlt2]⟩
              have HY := hid hyk
              clear hyk
              obtain ⟨b2, off2, rfl, hb2, f0, f1, f2, f3, f4, f5, ea, ec, f6, hre⟩ := HP.out.2 j y HY.out
              have g0 := cell_to f0 hC
              have g1 := cell_to f1 hC
              have g2 := cell_to f2 hC
              have g3 := cell_to f3 hC
              have g4 := cell_to f4 hC
              have g5 := cell_to f5 hC
              have g6 := cell_to f6 hC
              have HE := hid hre
              clear f0 f1 f2 f3 f4 f5 f6 hre
              cases hy : peerOk y
              · go_wp2_with (go_at_call 166; refine (refPeer_any y _ _ _ (rdBlks.to HE.out (by repeat (first | exact Below.refl _ _ | assumption | apply Ext.alloc | apply Ext.drewN | apply Ext.drew | refine Ext.trans ?_ (by assumption))))).mono ?_; rintro e w1 ⟨rfl, hb1⟩; obtain ⟨hc1, hf1⟩ := bcell hb1; have hz1 := hb_lt hb1)
                go_ret
                exact ⟨ret_bool (by rw [all_false HX.out (by rw [HG.out, all_false HY.out hy]; rfl)]), Ext.trans hC hb1⟩
              · go_wp2_with (go_at_call 166; refine (refPeer_any y _ _ _ (rdBlks.to HE.out (by repeat (first | exact Below.refl _ _ | assumption | apply Ext.alloc | apply Ext.drewN | apply Ext.drew | refine Ext.trans ?_ (by assumption))))).mono ?_; rintro e w1 ⟨rfl, hb1⟩; obtain ⟨hc1, hf1⟩ := bcell hb1; have hz1 := hb_lt hb1)
                exact ⟨⟨j + 1, by omega, by go_num, take_all HY.out HB.out hy, Ext.trans hbv hb1⟩, by simp [intOf]; omega⟩
            · have HB2 := hid (show x.peers.all peerOk = true by have := HB.out; rwa [List.take_of_length_le (by omega)] at this)
              obtain ⟨wb, hwb⟩ : ∃ wb, wb = wr := ⟨_, rfl⟩
              subst hwb
              go_wp2
              go_loopw [8] (fun i wr => ∃ t : Nat, t ≤ x.ports.length ∧ i = .int .i64 t ∧ (x.ports.take t).all prtOk = true ∧ Below wb.heap.size wb wr) (fun i _ => x.ports.length - (intOf i).toNat)
              case atStart => exact ⟨0, Nat.zero_le _, rfl, rfl, Below.refl _ _⟩
              case round =>
                obtain ⟨t, ht, rfl, hall, hbu⟩ := hrel
                have HD := hid hall
                clear hall
                have hD : Below w.heap.size w wr := Ext.trans hC hbu
                have s1 := cell_to e1 hbu
                by_cases hlt3 : t < x.ports.length
                · obtain ⟨y, hyk⟩ : ∃ y, x.ports[t]? = some y := ⟨x.ports[t], by simp [hlt3]⟩
                  have HY := hid hyk
                  clear hyk
                  obtain ⟨b2, off2, rfl, hb2, f0, f1, f2⟩ := HQ.out.2 t y HY.out
                  have g0 := cell_to f0 hD
                  have g1 := cell_to f1 hD
                  have g2 := cell_to f2 hD
                  clear f0 f1 f2
                  cases hy : prtOk y
                  · go_wp2_with (go_at_call 143; refine (refPort_any y _).mono ?_; rintro e w1 ⟨rfl, hb1⟩; obtain ⟨hc1, hf1⟩ := bcell hb1; have hz1 := hb_lt hb1)
                    go_ret
                    exact ⟨ret_bool (by rw [all_false HX.out (by rw [HG.out, HB2.out, all_false HY.out hy]; rfl)]), Ext.trans hD hb1⟩
                  · go_wp2_with (go_at_call 143; refine (refPort_any y _).mono ?_; rintro e w1 ⟨rfl, hb1⟩; obtain ⟨hc1, hf1⟩ := bcell hb1; have hz1 := hb_lt hb1)
                    exact ⟨⟨t + 1, by omega, by go_num, take_all HY.out HD.out hy, Ext.trans hbu hb1⟩, by simp [intOf]; omega⟩
                · have HD2 := hid (show x.ports.all prtOk = true by have := HD.out; rwa [List.take_of_length_le (by omega)] at this)
                  go_wp2
                  exact ⟨⟨k + 1, by omega, by go_num, take_all HX.out HA.out (by rw [HG.out, HB2.out, HD2.out]; rfl), hD⟩, by simp [intOf]; omega⟩
        · go_wp2
          go_ret
          have := HA.out
          rw [List.take_of_length_le (by omega)] at this
          exact ⟨ret_bool (by rw [this]), hbw⟩
  refine key.mono ?_
  rintro e w' ⟨rfl, hb⟩
  exact ⟨ret_bool (by rw [HF.out]), hb⟩
end Go.Proofs.YtmkjlhplgcifiaaGreat
namespace Go.Proofs.YtmkjlhplgcifiaaGreat
open Go.ChangeShapes Go.WideShapes Go.ChangeAt Go.RowKit
attribute [local simp] World.cell?_grow
attribute [local go_sem] World.cell?_grow
attribute [local simp] World.cell?_alloc_there
attribute [local go_sem] World.cell?_alloc_there
attribute [local go_sem] eqg_blk std_blk eqg_pod std_pod eqg_sel std_sel eqg_prt std_prt
attribute [local go_sem ↓] eql_blk eql_sel neq_sel eql_prt eql_pod
attribute [local go_sem ↓] met_in1 met_in2 met_re1 met_re2
attribute [local go_sem ↓] met_has1 met_has2
set_option linter.unusedVariables false
set_option linter.unusedSimpArgs false
set_option maxHeartbeats 4000000 in
theorem refPolicy_any (p : DPol) (oa ia : Option Addr) (oc ic : Nat) (w : World) (ho : rdRules w.heap.size w oa p.outs) (hi : rdRules w.heap.size w ia p.ins) :
    Calls Tryz.prog 107 #[.agg #[.int .i64 p.space, .int .i64 p.need, .int .i64 p.ban, .int .i64 p.ways, .slice oa p.outs.length oc, .slice ia p.ins.length ic]] w fun e w' => e = .returned (.bool (polOk p)) ∧ Below w.heap.size w w' := by
  have HO := hid ho
  have HI := hid hi
  clear ho hi
  cases hq1 : btw p.space 0 3
  · have HF := hid (show polOk p = false by rw [polOk, hq1]; rfl)
    go_enter Tryz.func107, Tryz.ntmps107
    go_wp2_with (first
      | (go_at_call 113; refine (between_any _ _ _ _).mono ?_; rintro e w' ⟨rfl, rfl⟩)
      | (go_at_call 137; refine (refSel_any _ _ _).mono ?_; rintro e w1 ⟨rfl, hb1⟩; obtain ⟨hc1, hf1⟩ := bcell hb1; have hz1 := hb_lt hb1; have ca0 : w1.cell? ⟨w.heap.size, 0, none⟩ = some (.int .i64 p.space) := cell_to (by simp [go_sem]) hb1; have ca1 : w1.cell? ⟨w.heap.size, 1, none⟩ = some (.int .i64 p.need) := cell_to (by simp [go_sem]) hb1; have ca2 : w1.cell? ⟨w.heap.size, 2, none⟩ = some (.int .i64 p.ban) := cell_to (by simp [go_sem]) hb1; have ca3 : w1.cell? ⟨w.heap.size, 3, none⟩ = some (.int .i64 p.ways) := cell_to (by simp [go_sem]) hb1; have ca4 : w1.cell? ⟨w.heap.size, 4, none⟩ = some (.slice oa p.outs.length oc) := cell_to (by simp [go_sem]) hb1; have ca5 : w1.cell? ⟨w.heap.size, 5, none⟩ = some (.slice ia p.ins.length ic) := cell_to (by simp [go_sem]) hb1))
    refine (refRules_any p.outs _ _ _ _ (rdRules.to HO.out (by repeat (first | exact Below.refl _ _ | assumption | apply Ext.alloc | apply Ext.drewN | apply Ext.drew | refine Ext.trans ?_ (by assumption))))).mono ?_
    rintro e w2 ⟨rfl, hb2⟩; obtain ⟨hc2, hf2⟩ := bcell hb2; have hz2 := hb_lt hb2
    have cb0 := cell_to ca0 hb2
    have cb1 := cell_to ca1 hb2
    have cb2 := cell_to ca2 hb2
    have cb3 := cell_to ca3 hb2
    have cb4 := cell_to ca4 hb2
    have cb5 := cell_to ca5 hb2
    go_wp2_with fail
    refine (refRules_any p.ins _ _ _ _ (rdRules.to HI.out (by repeat (first | exact Below.refl _ _ | assumption | apply Ext.alloc | apply Ext.drewN | apply Ext.drew | refine Ext.trans ?_ (by assumption))))).mono ?_
    rintro e w3 ⟨rfl, hb3⟩; obtain ⟨hc3, hf3⟩ := bcell hb3; have hz3 := hb_lt hb3
    go_wp2
    go_ret
    exact ⟨ret_bool (by rw [HF.out]), (by repeat (first | exact Below.refl _ _ | assumption | apply Ext.alloc | apply Ext.drewN | apply Ext.drew | refine Ext.trans ?_ (by assumption)))⟩
  cases hq2 : selOk p.need p.ban
  · have HF := hid (show polOk p = false by rw [polOk, hq1, hq2]; rfl)
    go_enter Tryz.func107, Tryz.ntmps107
    go_wp2_with (first
      | (go_at_call 113; refine (between_any _ _ _ _).mono ?_; rintro e w' ⟨rfl, rfl⟩)
      | (go_at_call 137; refine (refSel_any _ _ _).mono ?_; rintro e w1 ⟨rfl, hb1⟩; obtain ⟨hc1, hf1⟩ := bcell hb1; have hz1 := hb_lt hb1; have ca0 : w1.cell? ⟨w.heap.size, 0, none⟩ = some (.int .i64 p.space) := cell_to (by simp [go_sem]) hb1; have ca1 : w1.cell? ⟨w.heap.size, 1, none⟩ = some (.int .i64 p.need) := cell_to (by simp [go_sem]) hb1; have ca2 : w1.cell? ⟨w.heap.size, 2, none⟩ = some (.int .i64 p.ban) := cell_to (by simp [go_sem]) hb1; have ca3 : w1.cell? ⟨w.heap.size, 3, none⟩ = some (.int .i64 p.ways) := cell_to (by simp [go_sem]) hb1; have ca4 : w1.cell? ⟨w.heap.size, 4, none⟩ = some (.slice oa p.outs.length oc) := cell_to (by simp [go_sem]) hb1; have ca5 : w1.cell? ⟨w.heap.size, 5, none⟩ = some (.slice ia p.ins.length ic) := cell_to (by simp [go_sem]) hb1))
    refine (refRules_any p.outs _ _ _ _ (rdRules.to HO.out (by repeat (first | exact Below.refl _ _ | assumption | apply Ext.alloc | apply Ext.drewN | apply Ext.drew | refine Ext.trans ?_ (by assumption))))).mono ?_
    rintro e w2 ⟨rfl, hb2⟩; obtain ⟨hc2, hf2⟩ := bcell hb2; have hz2 := hb_lt hb2
    have cb0 := cell_to ca0 hb2
    have cb1 := cell_to ca1 hb2
    have cb2 := cell_to ca2 hb2
    have cb3 := cell_to ca3 hb2
    have cb4 := cell_to ca4 hb2
    have cb5 := cell_to ca5 hb2
    go_wp2_with fail
    refine (refRules_any p.ins _ _ _ _ (rdRules.to HI.out (by repeat (first | exact Below.refl _ _ | assumption | apply Ext.alloc | apply Ext.drewN | apply Ext.drew | refine Ext.trans ?_ (by assumption))))).mono ?_
    rintro e w3 ⟨rfl, hb3⟩; obtain ⟨hc3, hf3⟩ := bcell hb3; have hz3 := hb_lt hb3
    go_wp2
    go_ret
    exact ⟨ret_bool (by rw [HF.out]), (by repeat (first | exact Below.refl _ _ | assumption | apply Ext.alloc | apply Ext.drewN | apply Ext.drew | refine Ext.trans ?_ (by assumption)))⟩
  cases hq3 : btw p.ways 1 3
  · have HF := hid (show polOk p = false by rw [polOk, hq1, hq2, hq3]; rfl)
    go_enter Tryz.func107, Tryz.ntmps107
    go_wp2_with (first
      | (go_at_call 113; refine (between_any _ _ _ _).mono ?_; rintro e w' ⟨rfl, rfl⟩)
      | (go_at_call 137; refine (refSel_any _ _ _).mono ?_; rintro e w1 ⟨rfl, hb1⟩; obtain ⟨hc1, hf1⟩ := bcell hb1; have hz1 := hb_lt hb1; have ca0 : w1.cell? ⟨w.heap.size, 0, none⟩ = some (.int .i64 p.space) := cell_to (by simp [go_sem]) hb1; have ca1 : w1.cell? ⟨w.heap.size, 1, none⟩ = some (.int .i64 p.need) := cell_to (by simp [go_sem]) hb1; have ca2 : w1.cell? ⟨w.heap.size, 2, none⟩ = some (.int .i64 p.ban) := cell_to (by simp [go_sem]) hb1; have ca3 : w1.cell? ⟨w.heap.size, 3, none⟩ = some (.int .i64 p.ways) := cell_to (by simp [go_sem]) hb1; have ca4 : w1.cell? ⟨w.heap.size, 4, none⟩ = some (.slice oa p.outs.length oc) := cell_to (by simp [go_sem]) hb1; have ca5 : w1.cell? ⟨w.heap.size, 5, none⟩ = some (.slice ia p.ins.length ic) := cell_to (by simp [go_sem]) hb1))
    refine (refRules_any p.outs _ _ _ _ (rdRules.to HO.out (by repeat (first | exact Below.refl _ _ | assumption | apply Ext.alloc | apply Ext.drewN | apply Ext.drew | refine Ext.trans ?_ (by assumption))))).mono ?_
    rintro e w2 ⟨rfl, hb2⟩; obtain ⟨hc2, hf2⟩ := bcell hb2; have hz2 := hb_lt hb2
    have cb0 := cell_to ca0 hb2
    have cb1 := cell_to ca1 hb2
    have cb2 := cell_to ca2 hb2
    have cb3 := cell_to ca3 hb2
    have cb4 := cell_to ca4 hb2
    have cb5 := cell_to ca5 hb2
    go_wp2_with fail
    refine (refRules_any p.ins _ _ _ _ (rdRules.to HI.out (by repeat (first | exact Below.refl _ _ | assumption | apply Ext.alloc | apply Ext.drewN | apply Ext.drew | refine Ext.trans ?_ (by assumption))))).mono ?_
    rintro e w3 ⟨rfl, hb3⟩; obtain ⟨hc3, hf3⟩ := bcell hb3; have hz3 := hb_lt hb3
    go_wp2
    go_ret
    exact ⟨ret_bool (by rw [HF.out]), (by repeat (first | exact Below.refl _ _ | assumption | apply Ext.alloc | apply Ext.drewN | apply Ext.drew | refine Ext.trans ?_ (by assumption)))⟩
  have hw := btw_true.1 hq3
  have HE := hid (show polOk p = (rulesOk p.outs (p.ways % 2 == 1) && rulesOk p.ins (p.ways / 2 == 1)) by rw [polOk, hq1, hq2, hq3, ibeq, ibeq]; rfl)
  cases hq4 : rulesOk p.outs (p.ways % 2 == 1)
  · have HF := hid (show polOk p = false by rw [HE.out, hq4]; rfl)
    go_enter Tryz.func107, Tryz.ntmps107
    go_wp2_with (first
      | (go_at_call 113; refine (between_any _ _ _ _).mono ?_; rintro e w' ⟨rfl, rfl⟩)
      | (go_at_call 137; refine (refSel_any _ _ _).mono ?_; rintro e w1 ⟨rfl, hb1⟩; obtain ⟨hc1, hf1⟩ := bcell hb1; have hz1 := hb_lt hb1; have ca0 : w1.cell? ⟨w.heap.size, 0, none⟩ = some (.int .i64 p.space) := cell_to (by simp [go_sem]) hb1; have ca1 : w1.cell? ⟨w.heap.size, 1, none⟩ = some (.int .i64 p.need) := cell_to (by simp [go_sem]) hb1; have ca2 : w1.cell? ⟨w.heap.size, 2, none⟩ = some (.int .i64 p.ban) := cell_to (by simp [go_sem]) hb1; have ca3 : w1.cell? ⟨w.heap.size, 3, none⟩ = some (.int .i64 p.ways) := cell_to (by simp [go_sem]) hb1; have ca4 : w1.cell? ⟨w.heap.size, 4, none⟩ = some (.slice oa p.outs.length oc) := cell_to (by simp [go_sem]) hb1; have ca5 : w1.cell? ⟨w.heap.size, 5, none⟩ = some (.slice ia p.ins.length ic) := cell_to (by simp [go_sem]) hb1))
    refine (refRules_any p.outs _ _ _ _ (rdRules.to HO.out (by repeat (first | exact Below.refl _ _ | assumption | apply Ext.alloc | apply Ext.drewN | apply Ext.drew | refine Ext.trans ?_ (by assumption))))).mono ?_
    rw [hq4]
    rintro e w2 ⟨rfl, hb2⟩; obtain ⟨hc2, hf2⟩ := bcell hb2; have hz2 := hb_lt hb2
    have cb0 := cell_to ca0 hb2
    have cb1 := cell_to ca1 hb2
    have cb2 := cell_to ca2 hb2
    have cb3 := cell_to ca3 hb2
    have cb4 := cell_to ca4 hb2
    have cb5 := cell_to ca5 hb2
    go_wp2_with fail
    refine (refRules_any p.ins _ _ _ _ (rdRules.to HI.out (by repeat (first | exact Below.refl _ _ | assumption | apply Ext.alloc | apply Ext.drewN | apply Ext.drew | refine Ext.trans ?_ (by assumption))))).mono ?_
    rintro e w3 ⟨rfl, hb3⟩; obtain ⟨hc3, hf3⟩ := bcell hb3; have hz3 := hb_lt hb3
    go_wp2
    go_ret
    exact ⟨ret_bool (by rw [HF.out]), (by repeat (first | exact Below.refl _ _ | assumption | apply Ext.alloc | apply Ext.drewN | apply Ext.drew | refine Ext.trans ?_ (by assumption)))⟩
  have HF := hid (show polOk p = rulesOk p.ins (p.ways / 2 == 1) by rw [HE.out, hq4]; rfl)
  go_enter Tryz.func107, Tryz.ntmps107
  go_wp2_with (first
    | (go_at_call 113; refine (between_any _ _ _ _).mono ?_; rintro e w' ⟨rfl, rfl⟩)
    | (go_at_call 137; refine (refSel_any _ _ _).mono ?_; rintro e w1 ⟨rfl, hb1⟩; obtain ⟨hc1, hf1⟩ := bcell hb1; have hz1 := hb_lt hb1; have ca0 : w1.cell? ⟨w.heap.size, 0, none⟩ = some (.int .i64 p.space) := cell_to (by simp [go_sem]) hb1; have ca1 : w1.cell? ⟨w.heap.size, 1, none⟩ = some (.int .i64 p.need) := cell_to (by simp [go_sem]) hb1; have ca2 : w1.cell? ⟨w.heap.size, 2, none⟩ = some (.int .i64 p.ban) := cell_to (by simp [go_sem]) hb1; have ca3 : w1.cell? ⟨w.heap.size, 3, none⟩ = some (.int .i64 p.ways) := cell_to (by simp [go_sem]) hb1; have ca4 : w1.cell? ⟨w.heap.size, 4, none⟩ = some (.slice oa p.outs.length oc) := cell_to (by simp [go_sem]) hb1; have ca5 : w1.cell? ⟨w.heap.size, 5, none⟩ = some (.slice ia p.ins.length ic) := cell_to (by simp [go_sem]) hb1))
  refine (refRules_any p.outs _ _ _ _ (rdRules.to HO.out (by repeat (first | exact Below.refl _ _ | assumption | apply Ext.alloc | apply Ext.drewN | apply Ext.drew | refine Ext.trans ?_ (by assumption))))).mono ?_
  rw [hq4]
  rintro e w2 ⟨rfl, hb2⟩; obtain ⟨hc2, hf2⟩ := bcell hb2; have hz2 := hb_lt hb2
  have cb0 := cell_to ca0 hb2
  have cb1 := cell_to ca1 hb2
  have cb2 := cell_to ca2 hb2
  have cb3 := cell_to ca3 hb2
  have cb4 := cell_to ca4 hb2
  have cb5 := cell_to ca5 hb2
  go_wp2_with fail
  refine (refRules_any p.ins _ _ _ _ (rdRules.to HI.out (by repeat (first | exact Below.refl _ _ | assumption | apply Ext.alloc | apply Ext.drewN | apply Ext.drew | refine Ext.trans ?_ (by assumption))))).mono ?_
  rintro e w3 ⟨rfl, hb3⟩; obtain ⟨hc3, hf3⟩ := bcell hb3; have hz3 := hb_lt hb3
  go_wp2
  go_ret
  exact ⟨ret_bool (by rw [HF.out]), (by repeat (first | exact Below.refl _ _ | assumption | apply Ext.alloc | apply Ext.drewN | apply Ext.drew | refine Ext.trans ?_ (by assumption)))⟩
end Go.Proofs.YtmkjlhplgcifiaaGreat
namespace Go.Proofs.YtmkjlhplgcifiaaGreat
open Go.ChangeShapes Go.WideShapes Go.ChangeAt Go.RowKit
attribute [local simp] World.cell?_grow
attribute [local go_sem] World.cell?_grow
attribute [local simp] World.cell?_alloc_there
attribute [local go_sem] World.cell?_alloc_there
attribute [local go_sem] eqg_blk std_blk eqg_pod std_pod eqg_sel std_sel eqg_prt std_prt
attribute [local go_sem ↓] eql_blk eql_sel neq_sel eql_prt eql_pod
attribute [local go_sem ↓] met_in1 met_in2 met_re1 met_re2
attribute [local go_sem ↓] met_has1 met_has2
set_option linter.unusedVariables false
set_option linter.unusedSimpArgs false
theorem ways_fin2 : ∀ a : Fin 4, ∀ b : Fin 2, (bits .and .i64 (a.val : Int) ((b.val : Int) + 1) != 0) = hasWay a.val (b.val + 1) := by decide +kernel
theorem ways_eq2 (ways way : Int) (h0 : 1 ≤ ways) (h1 : ways ≤ 3) (hw : way = 1 ∨ way = 2) : (bits .and .i64 ways way != 0) = hasWay ways way := by
  obtain ⟨a, rfl⟩ := Int.eq_ofNat_of_zero_le (show 0 ≤ ways by omega)
  rcases hw with rfl | rfl
  · exact ways_fin2 ⟨a, by omega⟩ ⟨0, by omega⟩
  · exact ways_fin2 ⟨a, by omega⟩ ⟨1, by omega⟩
theorem polOk_space {p : DPol} (h : polOk p = true) : btw p.space 0 3 = true := by simp only [polOk, Bool.and_eq_true] at h; exact h.1.1.1.1
theorem polOk_sel {p : DPol} (h : polOk p = true) : selOk p.need p.ban = true := by simp only [polOk, Bool.and_eq_true] at h; exact h.1.1.1.2
theorem polOk_ways {p : DPol} (h : polOk p = true) : btw p.ways 1 3 = true := by simp only [polOk, Bool.and_eq_true] at h; exact h.1.1.2
theorem polOk_outs {p : DPol} (h : polOk p = true) : ∀ r ∈ p.outs, rulOk r = true := by simp only [polOk, rulesOk, few, Bool.and_eq_true, List.all_eq_true] at h; exact h.1.2.1.2
theorem polOk_ins {p : DPol} (h : polOk p = true) : ∀ r ∈ p.ins, rulOk r = true := by simp only [polOk, rulesOk, few, Bool.and_eq_true, List.all_eq_true] at h; exact h.2.1.2
theorem pktOk_src {k : DPkt} (h : pktOk k = true) : 0 ≤ k.src ∧ k.src ≤ 4294967295 := by simp only [pktOk, btw, Bool.and_eq_true, decide_eq_true_eq] at h; exact h.1.1.1
theorem pktOk_dst {k : DPkt} (h : pktOk k = true) : 0 ≤ k.dst ∧ k.dst ≤ 4294967295 := by simp only [pktOk, btw, Bool.and_eq_true, decide_eq_true_eq] at h; exact h.1.1.2
theorem rules_out (p : DPol) (oa ia : Option Addr) (oc ic : Nat) (w : World) :
    Calls Tryz.prog 127 #[.agg #[.int .i64 p.space, .int .i64 p.need, .int .i64 p.ban, .int .i64 p.ways, .slice oa p.outs.length oc, .slice ia p.ins.length ic], .int .i64 1] w fun e w' => e = .returned (.slice oa p.outs.length oc) ∧ Below w.heap.size w w' := by
  go_enter Tryz.func127, Tryz.ntmps127
  go_wp2
  go_ret
  exact ⟨rfl, (by repeat (first | exact Below.refl _ _ | assumption | apply Ext.alloc | apply Ext.drewN | apply Ext.drew | refine Ext.trans ?_ (by assumption)))⟩
theorem applies_out (q : DPol) (oa ia : Option Addr) (on inn oc ic : Nat) (p : DPod) (w : World) (hq : polOk q = true) (hp : podOk p = true) :
    Calls Tryz.prog 124 #[.agg #[.int .i64 q.space, .int .i64 q.need, .int .i64 q.ban, .int .i64 q.ways, .slice oa on oc, .slice ia inn ic], .int .i64 1, .agg #[.int .i64 p.host, .int .i64 p.ip, .int .i64 p.space, .int .i64 p.labels]] w fun e w' => e = .returned (.bool (applies 1 p q)) ∧ Below w.heap.size w w' := by
  obtain ⟨⟨n0, n1⟩, b0, b1⟩ := selOk_true.1 (polOk_sel hq)
  obtain ⟨_, _, _, l0, l1⟩ := podOk_true.1 hp
  have hw := btw_true.1 (polOk_ways hq)
  have HW := hid (ways_eq2 q.ways 1 hw.1 hw.2 (by omega))
  clear hq hp
  cases hq1 : (bits .and .i64 q.ways 1 != 0)
  · have HF := hid (show applies 1 p q = false by rw [applies, ← HW.out, hq1]; rfl)
    go_enter Tryz.func124, Tryz.ntmps124
    go_wp2
    go_ret
    exact ⟨ret_bool (by rw [HF.out]), (by repeat (first | exact Below.refl _ _ | assumption | apply Ext.alloc | apply Ext.drewN | apply Ext.drew | refine Ext.trans ?_ (by assumption)))⟩
  cases hq2 : (q.space == p.space)
  · have HF := hid (show applies 1 p q = false by rw [applies, ← HW.out, hq1, ← ibeq, hq2]; rfl)
    go_enter Tryz.func124, Tryz.ntmps124
    go_wp2
    go_ret
    exact ⟨ret_bool (by rw [HF.out]), (by repeat (first | exact Below.refl _ _ | assumption | apply Ext.alloc | apply Ext.drewN | apply Ext.drew | refine Ext.trans ?_ (by assumption)))⟩
  · have HF := hid (show applies 1 p q = sels q.need q.ban p.labels by rw [applies, ← HW.out, hq1, ← ibeq, hq2]; rfl)
    go_enter Tryz.func124, Tryz.ntmps124
    go_wp2_with (go_at_call 154; refine (selects_any _ _ _ _ _ _ _ n0 n1 b0 b1 l0 l1).mono ?_; rintro e w1 ⟨rfl, hb1⟩; obtain ⟨hc1, hf1⟩ := bcell hb1; have hz1 := hb_lt hb1)
    go_ret
    exact ⟨ret_bool (by rw [HF.out]), (by repeat (first | exact Below.refl _ _ | assumption | apply Ext.alloc | apply Ext.drewN | apply Ext.drew | refine Ext.trans ?_ (by assumption)))⟩
set_option maxHeartbeats 1000000 in
theorem letsGo_out (q : DPol) (oa ia : Option Addr) (oc ic : Nat) (sa : Option Addr) (pods : List DPod) (sc : Nat) (k : DPkt) (w : World)
    (hr : rdRules w.heap.size w oa q.outs) (hd : rdPods w.heap.size w sa pods) (ho : podsOk pods) (hq : polOk q = true) (hk : pktOk k = true) :
    Calls Tryz.prog 97 #[.agg #[.int .i64 q.space, .int .i64 q.need, .int .i64 q.ban, .int .i64 q.ways, .slice oa q.outs.length oc, .slice ia q.ins.length ic], .int .i64 1, .slice sa pods.length sc, .agg #[.int .i64 k.src, .int .i64 k.dst, .int .i64 k.proto, .int .i64 k.port]] w
      fun e w' => e = .returned (.bool (letsGo pods 1 k k.dst q)) ∧ Below w.heap.size w w' := by
  have HR := hid hr
  have HD := hid hd
  have HO := hid ho
  have HQ := hid (polOk_outs hq)
  have h0 := (btw_true.1 (polOk_space hq)).1
  have h1 := (btw_true.1 (polOk_space hq)).2
  have i0 := (pktOk_dst hk).1
  have i1 := (pktOk_dst hk).2
  have hmf := mkFunc
  clear hr hd ho hq hk
  go_enter Tryz.func97, Tryz.ntmps97
  go_wp2_with (first
    | (go_at_call 92; refine (ends_out k _).mono ?_; rintro e w1 ⟨rfl, hb1⟩; obtain ⟨hc1, hf1⟩ := bcell hb1; have hz1 := hb_lt hb1; have p0 : ∀ o, (w1.alloc o).cell? ⟨w.heap.size, 0, none⟩ = some (.int .i64 q.space) := fun o => cell_past (cell_to (by simp [go_sem]) hb1); have pp0 : ∀ o o2, ((w1.alloc o).alloc o2).cell? ⟨w.heap.size, 0, none⟩ = some (.int .i64 q.space) := fun o o2 => cell_past (cell_past (cell_to (by simp [go_sem]) hb1)); have pp1 : ∀ o o2, ((w1.alloc o).alloc o2).cell? ⟨w.heap.size, 1, none⟩ = some (.int .i64 q.need) := fun o o2 => cell_past (cell_past (cell_to (by simp [go_sem]) hb1)); have pp2 : ∀ o o2, ((w1.alloc o).alloc o2).cell? ⟨w.heap.size, 2, none⟩ = some (.int .i64 q.ban) := fun o o2 => cell_past (cell_past (cell_to (by simp [go_sem]) hb1)); have pp3 : ∀ o o2, ((w1.alloc o).alloc o2).cell? ⟨w.heap.size, 3, none⟩ = some (.int .i64 q.ways) := fun o o2 => cell_past (cell_past (cell_to (by simp [go_sem]) hb1)); have pp4 : ∀ o o2, ((w1.alloc o).alloc o2).cell? ⟨w.heap.size, 4, none⟩ = some (.slice oa q.outs.length oc) := fun o o2 => cell_past (cell_past (cell_to (by simp [go_sem]) hb1)); have pp5 : ∀ o o2, ((w1.alloc o).alloc o2).cell? ⟨w.heap.size, 5, none⟩ = some (.slice ia q.ins.length ic) := fun o o2 => cell_past (cell_past (cell_to (by simp [go_sem]) hb1)))
    | (go_at_call 127; refine (rules_out q _ _ _ _ _).mono ?_; rintro e w2 ⟨rfl, hb2⟩; obtain ⟨hc2, hf2⟩ := bcell hb2; have hz2 := hb_lt hb2)
    | (go_at_call 126; refine (anyRule (ruleFits pods q.space k k.dst) _ _ _ _ _ _ _ (rdRules.to HR.out (by repeat (first | exact Below.refl _ _ | assumption | apply Ext.alloc | apply Ext.drewN | apply Ext.drew | refine Ext.trans ?_ (by assumption)))) (fun r pa qa pc qc w3 hx hz hp hq => goClo r pa qa pc qc q.space _ pods sc k.dst k _ _ _ w3 hp hq (rdPods.to (rdPods.to HD.out (by repeat (first | exact Below.refl _ _ | assumption | apply Ext.alloc | apply Ext.drewN | apply Ext.drew | refine Ext.trans ?_ (by assumption)))) hz) HO.out (HQ.out r hx) i0 i1 h0 h1 (cell_to (cell_to (by simp [go_sem]) hb2) hz) (cell_to (cell_to (by simp [go_sem]) hb2) hz) (cell_to (cell_to (by simp [go_sem]) hb2) hz) (cell_to (cell_to (cell_past (cell_past (cell_to (by simp [go_sem]) hb1))) hb2) hz) (cell_to (cell_to (cell_past (cell_past (cell_to (by simp [go_sem]) hb1))) hb2) hz) (cell_to (cell_to (cell_past (cell_past (cell_to (by simp [go_sem]) hb1))) hb2) hz) (cell_to (cell_to (cell_past (cell_past (cell_to (by simp [go_sem]) hb1))) hb2) hz))).mono ?_; rintro e w3 ⟨rfl, hb3⟩; obtain ⟨hc3, hf3⟩ := bcell hb3; have hz3 := hb_lt hb3))
  go_ret
  exact ⟨rfl, (by repeat (first | exact Below.refl _ _ | assumption | apply Ext.alloc | apply Ext.drewN | apply Ext.drew | refine Ext.trans ?_ (by assumption)))⟩
theorem rules_in (p : DPol) (oa ia : Option Addr) (oc ic : Nat) (w : World) :
    Calls Tryz.prog 127 #[.agg #[.int .i64 p.space, .int .i64 p.need, .int .i64 p.ban, .int .i64 p.ways, .slice oa p.outs.length oc, .slice ia p.ins.length ic], .int .i64 2] w fun e w' => e = .returned (.slice ia p.ins.length ic) ∧ Below w.heap.size w w' := by
  go_enter Tryz.func127, Tryz.ntmps127
  go_wp2
  go_ret
  exact ⟨rfl, (by repeat (first | exact Below.refl _ _ | assumption | apply Ext.alloc | apply Ext.drewN | apply Ext.drew | refine Ext.trans ?_ (by assumption)))⟩
theorem applies_in (q : DPol) (oa ia : Option Addr) (on inn oc ic : Nat) (p : DPod) (w : World) (hq : polOk q = true) (hp : podOk p = true) :
    Calls Tryz.prog 124 #[.agg #[.int .i64 q.space, .int .i64 q.need, .int .i64 q.ban, .int .i64 q.ways, .slice oa on oc, .slice ia inn ic], .int .i64 2, .agg #[.int .i64 p.host, .int .i64 p.ip, .int .i64 p.space, .int .i64 p.labels]] w fun e w' => e = .returned (.bool (applies 2 p q)) ∧ Below w.heap.size w w' := by
  obtain ⟨⟨n0, n1⟩, b0, b1⟩ := selOk_true.1 (polOk_sel hq)
  obtain ⟨_, _, _, l0, l1⟩ := podOk_true.1 hp
  have hw := btw_true.1 (polOk_ways hq)
  have HW := hid (ways_eq2 q.ways 2 hw.1 hw.2 (by omega))
  clear hq hp
  cases hq1 : (bits .and .i64 q.ways 2 != 0)
  · have HF := hid (show applies 2 p q = false by rw [applies, ← HW.out, hq1]; rfl)
    go_enter Tryz.func124, Tryz.ntmps124
    go_wp2
    go_ret
    exact ⟨ret_bool (by rw [HF.out]), (by repeat (first | exact Below.refl _ _ | assumption | apply Ext.alloc | apply Ext.drewN | apply Ext.drew | refine Ext.trans ?_ (by assumption)))⟩
  cases hq2 : (q.space == p.space)
  · have HF := hid (show applies 2 p q = false by rw [applies, ← HW.out, hq1, ← ibeq, hq2]; rfl)
    go_enter Tryz.func124, Tryz.ntmps124
    go_wp2
    go_ret
    exact ⟨ret_bool (by rw [HF.out]), (by repeat (first | exact Below.refl _ _ | assumption | apply Ext.alloc | apply Ext.drewN | apply Ext.drew | refine Ext.trans ?_ (by assumption)))⟩
  · have HF := hid (show applies 2 p q = sels q.need q.ban p.labels by rw [applies, ← HW.out, hq1, ← ibeq, hq2]; rfl)
    go_enter Tryz.func124, Tryz.ntmps124
    go_wp2_with (go_at_call 154; refine (selects_any _ _ _ _ _ _ _ n0 n1 b0 b1 l0 l1).mono ?_; rintro e w1 ⟨rfl, hb1⟩; obtain ⟨hc1, hf1⟩ := bcell hb1; have hz1 := hb_lt hb1)
    go_ret
    exact ⟨ret_bool (by rw [HF.out]), (by repeat (first | exact Below.refl _ _ | assumption | apply Ext.alloc | apply Ext.drewN | apply Ext.drew | refine Ext.trans ?_ (by assumption)))⟩
set_option maxHeartbeats 1000000 in
theorem letsGo_in (q : DPol) (oa ia : Option Addr) (oc ic : Nat) (sa : Option Addr) (pods : List DPod) (sc : Nat) (k : DPkt) (w : World)
    (hr : rdRules w.heap.size w ia q.ins) (hd : rdPods w.heap.size w sa pods) (ho : podsOk pods) (hq : polOk q = true) (hk : pktOk k = true) :
    Calls Tryz.prog 97 #[.agg #[.int .i64 q.space, .int .i64 q.need, .int .i64 q.ban, .int .i64 q.ways, .slice oa q.outs.length oc, .slice ia q.ins.length ic], .int .i64 2, .slice sa pods.length sc, .agg #[.int .i64 k.src, .int .i64 k.dst, .int .i64 k.proto, .int .i64 k.port]] w
      fun e w' => e = .returned (.bool (letsGo pods 2 k k.src q)) ∧ Below w.heap.size w w' := by
  have HR := hid hr
  have HD := hid hd
  have HO := hid ho
  have HQ := hid (polOk_ins hq)
  have h0 := (btw_true.1 (polOk_space hq)).1
  have h1 := (btw_true.1 (polOk_space hq)).2
  have i0 := (pktOk_src hk).1
  have i1 := (pktOk_src hk).2
  have hmf := mkFunc
  clear hr hd ho hq hk
  go_enter Tryz.func97, Tryz.ntmps97
  go_wp2_with (first
    | (go_at_call 92; refine (ends_in k _).mono ?_; rintro e w1 ⟨rfl, hb1⟩; obtain ⟨hc1, hf1⟩ := bcell hb1; have hz1 := hb_lt hb1; have p0 : ∀ o, (w1.alloc o).cell? ⟨w.heap.size, 0, none⟩ = some (.int .i64 q.space) := fun o => cell_past (cell_to (by simp [go_sem]) hb1); have pp0 : ∀ o o2, ((w1.alloc o).alloc o2).cell? ⟨w.heap.size, 0, none⟩ = some (.int .i64 q.space) := fun o o2 => cell_past (cell_past (cell_to (by simp [go_sem]) hb1)); have pp1 : ∀ o o2, ((w1.alloc o).alloc o2).cell? ⟨w.heap.size, 1, none⟩ = some (.int .i64 q.need) := fun o o2 => cell_past (cell_past (cell_to (by simp [go_sem]) hb1)); have pp2 : ∀ o o2, ((w1.alloc o).alloc o2).cell? ⟨w.heap.size, 2, none⟩ = some (.int .i64 q.ban) := fun o o2 => cell_past (cell_past (cell_to (by simp [go_sem]) hb1)); have pp3 : ∀ o o2, ((w1.alloc o).alloc o2).cell? ⟨w.heap.size, 3, none⟩ = some (.int .i64 q.ways) := fun o o2 => cell_past (cell_past (cell_to (by simp [go_sem]) hb1)); have pp4 : ∀ o o2, ((w1.alloc o).alloc o2).cell? ⟨w.heap.size, 4, none⟩ = some (.slice oa q.outs.length oc) := fun o o2 => cell_past (cell_past (cell_to (by simp [go_sem]) hb1)); have pp5 : ∀ o o2, ((w1.alloc o).alloc o2).cell? ⟨w.heap.size, 5, none⟩ = some (.slice ia q.ins.length ic) := fun o o2 => cell_past (cell_past (cell_to (by simp [go_sem]) hb1)))
    | (go_at_call 127; refine (rules_in q _ _ _ _ _).mono ?_; rintro e w2 ⟨rfl, hb2⟩; obtain ⟨hc2, hf2⟩ := bcell hb2; have hz2 := hb_lt hb2)
    | (go_at_call 126; refine (anyRule (ruleFits pods q.space k k.src) _ _ _ _ _ _ _ (rdRules.to HR.out (by repeat (first | exact Below.refl _ _ | assumption | apply Ext.alloc | apply Ext.drewN | apply Ext.drew | refine Ext.trans ?_ (by assumption)))) (fun r pa qa pc qc w3 hx hz hp hq => goClo r pa qa pc qc q.space _ pods sc k.src k _ _ _ w3 hp hq (rdPods.to (rdPods.to HD.out (by repeat (first | exact Below.refl _ _ | assumption | apply Ext.alloc | apply Ext.drewN | apply Ext.drew | refine Ext.trans ?_ (by assumption)))) hz) HO.out (HQ.out r hx) i0 i1 h0 h1 (cell_to (cell_to (by simp [go_sem]) hb2) hz) (cell_to (cell_to (by simp [go_sem]) hb2) hz) (cell_to (cell_to (by simp [go_sem]) hb2) hz) (cell_to (cell_to (cell_past (cell_past (cell_to (by simp [go_sem]) hb1))) hb2) hz) (cell_to (cell_to (cell_past (cell_past (cell_to (by simp [go_sem]) hb1))) hb2) hz) (cell_to (cell_to (cell_past (cell_past (cell_to (by simp [go_sem]) hb1))) hb2) hz) (cell_to (cell_to (cell_past (cell_past (cell_to (by simp [go_sem]) hb1))) hb2) hz))).mono ?_; rintro e w3 ⟨rfl, hb3⟩; obtain ⟨hc3, hf3⟩ := bcell hb3; have hz3 := hb_lt hb3))
  go_ret
  exact ⟨rfl, (by repeat (first | exact Below.refl _ _ | assumption | apply Ext.alloc | apply Ext.drewN | apply Ext.drew | refine Ext.trans ?_ (by assumption)))⟩
end Go.Proofs.YtmkjlhplgcifiaaGreat
