/-
  The document's answer: when rules and a policy are right.
-/
import Derived.Test.YtmkjlhplgcifiaaR1
namespace Go.Proofs.Ytmkjlhplgcifiaa
open Go.ChangeShapes Go.WideShapes Go.ChangeAt Go.RowKit
attribute [local simp] World.cell?_grow
attribute [local go_sem] World.cell?_grow
attribute [local simp] World.cell?_alloc_there
attribute [local go_sem] World.cell?_alloc_there
attribute [local go_sem] eqg_blk std_blk eqg_pod std_pod eqg_sel std_sel eqg_prt std_prt
attribute [local go_sem ↓] eql_blk eql_sel neq_sel eql_prt eql_pod
attribute [local go_sem ↓] met_in1 met_in2 met_re1 met_re2
attribute [local go_sem ↓] met_has1 met_has2
set_option linter.unusedVariables false
set_option linter.unusedSimpArgs false

theorem rulOk_split (r : DRule) (h1 : (r.peers.length : Int) ≤ 2) (h2 : (r.ports.length : Int) ≤ 2) : rulOk r = (r.peers.all peerOk && r.ports.all prtOk) := by simp [rulOk, few, h1, h2]
theorem rulOk_many (r : DRule) (h : ¬ ((r.peers.length : Int) ≤ 2) ∨ ¬ ((r.ports.length : Int) ≤ 2)) : rulOk r = false := by
  rcases h with h | h <;> simp [rulOk, few, h]

set_option maxRecDepth 100000 in
set_option maxHeartbeats 8000000 in
theorem refRules_any (l : List DRule) (a : Option Addr) (cap : Nat) (way : Bool) (w : World) (hr : rdRules w.heap.size w a l) :
    Calls Try.prog 39 #[.slice a l.length cap, .bool way] w fun e w' => e = .returned (.bool (rulesOk l way)) ∧ Below w.heap.size w w' := by
  have HR := hid hr
  have hlen := hr.1
  clear hr
  by_cases hl : ¬ (l.length : Int) ≤ 2
  · have HF := hid (show rulesOk l way = false by simp [rulesOk, few, hl])
    go_enter Try.func39, Try.ntmps39
    go_wp2
    go_ret
    exact ⟨ret_bool (by rw [HF.out]), (by repeat (first | exact Below.refl _ _ | assumption | apply Ext.alloc | apply Ext.drewN | apply Ext.drew | refine Ext.trans ?_ (by assumption)))⟩
  have hl := Decidable.not_not.1 hl
  by_cases hw : way = false ∧ 0 < l.length
  · obtain ⟨rfl, h0⟩ := hw
    have HF := hid (show rulesOk l false = false by
      have : ¬ l.length = 0 := by omega
      simp [rulesOk, this])
    go_enter Try.func39, Try.ntmps39
    go_wp2
    go_ret
    exact ⟨ret_bool (by rw [HF.out]), (by repeat (first | exact Below.refl _ _ | assumption | apply Ext.alloc | apply Ext.drewN | apply Ext.drew | refine Ext.trans ?_ (by assumption)))⟩
  have HF := hid (show rulesOk l way = l.all rulOk by
    have h2 : (way || decide (l.length = 0)) = true := by
      cases way
      · have : l.length = 0 := by
          rcases Nat.eq_zero_or_pos l.length with h | h
          · exact h
          · exact absurd ⟨rfl, h⟩ hw
        simp [this]
      · rfl
    rw [rulesOk, h2, few]
    simp [hl])
  have hw2 : way = false → (l.length : Int) = 0 := fun h => by
    rcases Nat.eq_zero_or_pos l.length with h' | h'
    · omega
    · exact absurd ⟨h, h'⟩ hw
  clear hw
  have key : Calls Try.prog 39 #[.slice a l.length cap, .bool way] w fun e w' => e = .returned (.bool (l.all rulOk)) ∧ Below w.heap.size w w' := by
    cases way
    · have hw3 := hw2 rfl
      clear hw2 HF
      go_enter Try.func39, Try.ntmps39
      go_wp2
      go_loopw [5] (fun i wr => ∃ k : Nat, k ≤ l.length ∧ i = .int .i64 k ∧ (l.take k).all rulOk = true ∧ Below w.heap.size w wr) (fun i _ => l.length - (intOf i).toNat)
      case atStart => exact ⟨0, Nat.zero_le _, rfl, rfl, Below.refl _ _⟩
      case round =>
        obtain ⟨k, hk, rfl, hall, hbw⟩ := hrel
        have HA := hid hall
        clear hall
        have hk2 : ¬ k < l.length := by omega
        go_wp2
        go_ret
        have := HA.out
        rw [List.take_of_length_le (by omega)] at this
        exact ⟨ret_bool (by rw [this]), hbw⟩
    · clear hw2 HF
      go_enter Try.func39, Try.ntmps39
      go_wp2
      go_loopw [5] (fun i wr => ∃ k : Nat, k ≤ l.length ∧ i = .int .i64 k ∧ (l.take k).all rulOk = true ∧ Below w.heap.size w wr) (fun i _ => l.length - (intOf i).toNat)
      case atStart => exact ⟨0, Nat.zero_le _, rfl, rfl, Below.refl _ _⟩
      case round =>
        obtain ⟨k, hk, rfl, hall, hbw⟩ := hrel
        have HA := hid hall
        clear hall
        by_cases hlt : k < l.length
        · obtain ⟨x, hxk⟩ : ∃ x, l[k]? = some x := ⟨l[k], by simp [hlt]⟩
          have HX := hid hxk
          clear hxk
          obtain ⟨b, off, rfl, hb, ⟨pa, pc, c0, hrp⟩, qa, qc, c1, hrq⟩ := HR.out.2 k x HX.out
          have HP := hid hrp
          have HQ := hid hrq
          have hlp := hrp.1
          have hlq := hrq.1
          have d0 := cell_to c0 hbw
          have d1 := cell_to c1 hbw
          by_cases hm : ¬ (x.peers.length : Int) ≤ 2
          · have HG := hid (rulOk_many x (Or.inl hm))
            clear hrp hrq
            go_wp2
            go_ret
            exact ⟨ret_bool (by rw [all_false HX.out HG.out]), hbw⟩
          have hm := Decidable.not_not.1 hm
          by_cases hn : ¬ (x.ports.length : Int) ≤ 2
          · have HG := hid (rulOk_many x (Or.inr hn))
            clear hrp hrq
            go_wp2
            go_ret
            exact ⟨ret_bool (by rw [all_false HX.out HG.out]), hbw⟩
          have hn := Decidable.not_not.1 hn
          have HG := hid (rulOk_split x hm hn)
          clear hrp hrq
          obtain ⟨wa, hwa⟩ : ∃ wa, wa = wr := ⟨_, rfl⟩
          subst hwa
          go_wp2
          go_loopw [6] (fun i wr => ∃ j : Nat, j ≤ x.peers.length ∧ i = .int .i64 j ∧ (x.peers.take j).all peerOk = true ∧ Below wa.heap.size wa wr) (fun i _ => x.peers.length - (intOf i).toNat)
          case atStart => exact ⟨0, Nat.zero_le _, rfl, rfl, Below.refl _ _⟩
          case round =>
            obtain ⟨j, hj, rfl, hall, hbv⟩ := hrel
            have HB := hid hall
            clear hall
            have hC : Below w.heap.size w wr := Ext.trans hbw hbv
            have e0 := cell_to d0 hbv
            have e1 := cell_to d1 hbv
            by_cases hlt2 : j < x.peers.length
            · obtain ⟨y, hyk⟩ : ∃ y, x.peers[j]? = some y := ⟨x.peers[j], by simp [hlt2]⟩
              have HY := hid hyk
              clear hyk
              obtain ⟨b2, off2, rfl, hb2, f0, f1, f2, f3, f4, f5, ea, ec, f6, hre⟩ := HP.out.2 j y HY.out
              have g0 := cell_to f0 hC
              have g1 := cell_to f1 hC
              have g2 := cell_to f2 hC
              have g3 := cell_to f3 hC
              have g4 := cell_to f4 hC
              have g5 := cell_to f5 hC
              have g6 := cell_to f6 hC
              have HE := hid hre
              clear f0 f1 f2 f3 f4 f5 f6 hre
              cases hy : peerOk y
              · go_wp2_with (go_at_call 58; refine (refPeer_any y _ _ _ (rdBlks.to HE.out (by repeat (first | exact Below.refl _ _ | assumption | apply Ext.alloc | apply Ext.drewN | apply Ext.drew | refine Ext.trans ?_ (by assumption))))).mono ?_; rintro e w1 ⟨rfl, hb1⟩; obtain ⟨hc1, hf1⟩ := bcell hb1; have hz1 := hb_lt hb1)
                go_ret
                exact ⟨ret_bool (by rw [all_false HX.out (by rw [HG.out, all_false HY.out hy]; rfl)]), Ext.trans hC hb1⟩
              · go_wp2_with (go_at_call 58; refine (refPeer_any y _ _ _ (rdBlks.to HE.out (by repeat (first | exact Below.refl _ _ | assumption | apply Ext.alloc | apply Ext.drewN | apply Ext.drew | refine Ext.trans ?_ (by assumption))))).mono ?_; rintro e w1 ⟨rfl, hb1⟩; obtain ⟨hc1, hf1⟩ := bcell hb1; have hz1 := hb_lt hb1)
                exact ⟨⟨j + 1, by omega, by go_num, take_all HY.out HB.out hy, Ext.trans hbv hb1⟩, by simp [intOf]; omega⟩
            · have HB2 := hid (show x.peers.all peerOk = true by have := HB.out; rwa [List.take_of_length_le (by omega)] at this)
              obtain ⟨wb, hwb⟩ : ∃ wb, wb = wr := ⟨_, rfl⟩
              subst hwb
              go_wp2
              go_loopw [8] (fun i wr => ∃ t : Nat, t ≤ x.ports.length ∧ i = .int .i64 t ∧ (x.ports.take t).all prtOk = true ∧ Below wb.heap.size wb wr) (fun i _ => x.ports.length - (intOf i).toNat)
              case atStart => exact ⟨0, Nat.zero_le _, rfl, rfl, Below.refl _ _⟩
              case round =>
                obtain ⟨t, ht, rfl, hall, hbu⟩ := hrel
                have HD := hid hall
                clear hall
                have hD : Below w.heap.size w wr := Ext.trans hC hbu
                have s1 := cell_to e1 hbu
                by_cases hlt3 : t < x.ports.length
                · obtain ⟨y, hyk⟩ : ∃ y, x.ports[t]? = some y := ⟨x.ports[t], by simp [hlt3]⟩
                  have HY := hid hyk
                  clear hyk
                  obtain ⟨b2, off2, rfl, hb2, f0, f1, f2⟩ := HQ.out.2 t y HY.out
                  have g0 := cell_to f0 hD
                  have g1 := cell_to f1 hD
                  have g2 := cell_to f2 hD
                  clear f0 f1 f2
                  cases hy : prtOk y
                  · go_wp2_with (go_at_call 59; refine (refPort_any y _).mono ?_; rintro e w1 ⟨rfl, hb1⟩; obtain ⟨hc1, hf1⟩ := bcell hb1; have hz1 := hb_lt hb1)
                    go_ret
                    exact ⟨ret_bool (by rw [all_false HX.out (by rw [HG.out, HB2.out, all_false HY.out hy]; rfl)]), Ext.trans hD hb1⟩
                  · go_wp2_with (go_at_call 59; refine (refPort_any y _).mono ?_; rintro e w1 ⟨rfl, hb1⟩; obtain ⟨hc1, hf1⟩ := bcell hb1; have hz1 := hb_lt hb1)
                    exact ⟨⟨t + 1, by omega, by go_num, take_all HY.out HD.out hy, Ext.trans hbu hb1⟩, by simp [intOf]; omega⟩
                · have HD2 := hid (show x.ports.all prtOk = true by have := HD.out; rwa [List.take_of_length_le (by omega)] at this)
                  go_wp2
                  exact ⟨⟨k + 1, by omega, by go_num, take_all HX.out HA.out (by rw [HG.out, HB2.out, HD2.out]; rfl), hD⟩, by simp [intOf]; omega⟩
        · go_wp2
          go_ret
          have := HA.out
          rw [List.take_of_length_le (by omega)] at this
          exact ⟨ret_bool (by rw [this]), hbw⟩
  refine key.mono ?_
  rintro e w' ⟨rfl, hb⟩
  exact ⟨ret_bool (by rw [HF.out]), hb⟩
end Go.Proofs.Ytmkjlhplgcifiaa
