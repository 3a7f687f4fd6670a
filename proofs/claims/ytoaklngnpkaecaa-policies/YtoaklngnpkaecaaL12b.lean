/-
  palisade.Allowed: the whole of P4.
-/
import Derived.Test.YtoaklngnpkaecaaL12
namespace Go.Proofs.Ytoaklngnpkaecaa
open Go.ChangeShapes Go.WideShapes Go.ChangeAt Go.RowKit
attribute [local simp] World.cell?_grow
attribute [local go_sem] World.cell?_grow
attribute [local simp] World.cell?_alloc_there
attribute [local go_sem] World.cell?_alloc_there
attribute [local go_sem] eqg_blk std_blk eqg_pod std_pod eqg_sel std_sel eqg_prt std_prt
attribute [local go_sem ↓] eql_blk eql_sel neq_sel eql_prt eql_pod
attribute [local go_sem ↓] met_in1 met_in2 met_re1 met_re2
attribute [local go_sem ↓] met_has1 met_has2
set_option linter.unusedVariables false
set_option linter.unusedSimpArgs false


set_option maxHeartbeats 4000000 in
theorem mayGo_in (c : DClu) (k : DPkt) (pa qa : Option Addr) (pc qc : Nat) (w : World) (hp : rdPods w.heap.size w pa c.pods) (hq : rdPols w.heap.size w qa c.pols) (hc : cluOk c) (hk : pktOk k = true) :
    Calls Try.prog 23 #[.agg #[.slice pa c.pods.length pc, .slice qa c.pols.length qc], .int .i64 2, .agg #[.int .i64 k.src, .int .i64 k.dst, .int .i64 k.proto, .int .i64 k.port]] w fun e w' => e = .returned (.bool (may c 2 k k.dst k.src)) ∧ Below w.heap.size w w' := by
  have HP := hid hp
  have HQ := hid hq
  have HC := hid hc
  have HK := hid hk
  have hl2 := hq.1
  clear hp hq hc hk
  cases hpa : podAt c.pods k.dst with
  | none =>
    have HA := hid hpa
    have HF := hid (may_none (way := 2) (k := k) (far := k.src) hpa)
    clear hpa
    go_enter Try.func23, Try.ntmps23
    go_wp2_with (first
      | (go_at_call 41; refine (ends_in k _).mono ?_; rintro e w1 ⟨rfl, hb1⟩; obtain ⟨hc1, hf1⟩ := bcell hb1; have hz1 := hb_lt hb1)
      | (go_at_call 31; refine (at_any _ _ c.pods _ _ (rdPods.to HP.out (by repeat (first | exact Below.refl _ _ | assumption | apply Ext.alloc | apply Ext.drewN | apply Ext.drew | refine Ext.trans ?_ (by assumption))))).mono ?_; rw [HA.out, atV]; rintro e w2 ⟨rfl, hb2⟩; obtain ⟨hc2, hf2⟩ := bcell hb2; have hz2 := hb_lt hb2))
    go_ret
    exact ⟨ret_bool (by rw [HF.out]), (by repeat (first | exact Below.refl _ _ | assumption | apply Ext.alloc | apply Ext.drewN | apply Ext.drew | refine Ext.trans ?_ (by assumption)))⟩
  | some p =>
    have HA := hid hpa
    have HPP := hid (HC.out.1.1 p (List.mem_of_find?_eq_some hpa))
    clear hpa
    go_enter Try.func23, Try.ntmps23
    go_wp2_with (first
      | (go_at_call 41; refine (ends_in k _).mono ?_; rintro e w1 ⟨rfl, hb1⟩; obtain ⟨hc1, hf1⟩ := bcell hb1; have hz1 := hb_lt hb1; have ec0 : w1.cell? ⟨w.heap.size, 0, none⟩ = some (.slice pa c.pods.length pc) := cell_to (by simp [go_sem]) hb1; have ec1 : w1.cell? ⟨w.heap.size, 1, none⟩ = some (.slice qa c.pols.length qc) := cell_to (by simp [go_sem]) hb1)
      | (go_at_call 31; refine (at_any _ _ c.pods _ _ (rdPods.to HP.out (by repeat (first | exact Below.refl _ _ | assumption | apply Ext.alloc | apply Ext.drewN | apply Ext.drew | refine Ext.trans ?_ (by assumption))))).mono ?_; rw [HA.out, atV]; rintro e w2 ⟨rfl, hb2⟩; obtain ⟨hc2, hf2⟩ := bcell hb2; have hz2 := hb_lt hb2; have ed1 : ∀ o, (w2.alloc o).cell? ⟨w.heap.size, 1, none⟩ = some (.slice qa c.pols.length qc) := fun o => cell_past (cell_to ec1 hb2)))
    have hB0 : Below w.heap.size w (w2.alloc (Obj.cells #[.int .i64 p.host, .int .i64 p.ip, .int .i64 p.space, .int .i64 p.labels] 32)) := (by repeat (first | exact Below.refl _ _ | assumption | apply Ext.alloc | apply Ext.drewN | apply Ext.drew | refine Ext.trans ?_ (by assumption)))
    go_loopw [11, 32] (fun ap i wr => ∃ j : Nat, j ≤ c.pols.length ∧ i = .int .i64 j ∧ ap = .bool ((c.pols.take j).any (applies 2 p)) ∧ ((c.pols.take j).any fun q => applies 2 p q && letsGo c.pods 2 k k.src q) = false ∧ Below (w2.alloc (Obj.cells #[.int .i64 p.host, .int .i64 p.ip, .int .i64 p.space, .int .i64 p.labels] 32)).heap.size (w2.alloc (Obj.cells #[.int .i64 p.host, .int .i64 p.ip, .int .i64 p.space, .int .i64 p.labels] 32)) wr) (fun _ i _ => c.pols.length - (intOf i).toNat)
    case atStart => exact ⟨0, Nat.zero_le _, rfl, rfl, rfl, Below.refl _ _⟩
    case round =>
      obtain ⟨j, hj, rfl, rfl, hall, hbw⟩ := hrel
      have HE := hid hall
      clear hall
      have HW := hid hbw
      have hC : Below w.heap.size w wr := Ext.trans hB0 hbw
      clear hbw
      have z0 : wr.cell? ⟨w.heap.size, 0, none⟩ = some (.slice pa c.pods.length pc) := cell_to (cell_past (cell_to ec0 hb2)) HW.out
      have k0 : wr.cell? ⟨w.heap.size + 1, 0, none⟩ = some (.int .i64 k.src) := cell_to (cell_past (cell_to (cell_to (by simp [go_sem]) hb1) hb2)) HW.out
      have k1 : wr.cell? ⟨w.heap.size + 1, 1, none⟩ = some (.int .i64 k.dst) := cell_to (cell_past (cell_to (cell_to (by simp [go_sem]) hb1) hb2)) HW.out
      have k2 : wr.cell? ⟨w.heap.size + 1, 2, none⟩ = some (.int .i64 k.proto) := cell_to (cell_past (cell_to (cell_to (by simp [go_sem]) hb1) hb2)) HW.out
      have k3 : wr.cell? ⟨w.heap.size + 1, 3, none⟩ = some (.int .i64 k.port) := cell_to (cell_past (cell_to (cell_to (by simp [go_sem]) hb1) hb2)) HW.out
      have p0 : wr.cell? ⟨w2.heap.size, 0, none⟩ = some (.int .i64 p.host) := cell_to (by simp [go_sem]) HW.out
      have p1 : wr.cell? ⟨w2.heap.size, 1, none⟩ = some (.int .i64 p.ip) := cell_to (by simp [go_sem]) HW.out
      have p2 : wr.cell? ⟨w2.heap.size, 2, none⟩ = some (.int .i64 p.space) := cell_to (by simp [go_sem]) HW.out
      have p3 : wr.cell? ⟨w2.heap.size, 3, none⟩ = some (.int .i64 p.labels) := cell_to (by simp [go_sem]) HW.out
      clear hc1 hf1 hz1 hc2 hf2 hz2 ed1 ec0 ec1
      by_cases hlt : j < c.pols.length
      · obtain ⟨x, hxk⟩ : ∃ x, c.pols[j]? = some x := ⟨c.pols[j], by simp [hlt]⟩
        have HX := hid hxk
        have HPX := hid (HC.out.2 x (List.mem_of_getElem? hxk))
        have HT := hid (take_any' (f := applies 2 p) hxk)
        have HL := hid (take_any' (f := fun q => applies 2 p q && letsGo c.pods 2 k k.src q) hxk)
        clear hxk
        obtain ⟨b, off, rfl, hb, c0, c1, c2, c3, ⟨oa, oc, c4, ho⟩, ia, ic, c5, hi⟩ := HQ.out.2 j x HX.out
        have d0 := cell_to c0 hC
        have d1 := cell_to c1 hC
        have d2 := cell_to c2 hC
        have d3 := cell_to c3 hC
        have d4 := cell_to c4 hC
        have d5 := cell_to c5 hC
        have HR := hid hi
        clear c0 c1 c2 c3 c4 c5 ho hi
        have yp0 : ∀ o, (wr.alloc o).cell? ⟨w2.heap.size, 0, none⟩ = some (.int .i64 p.host) := fun o => cell_past p0
        have yp1 : ∀ o, (wr.alloc o).cell? ⟨w2.heap.size, 1, none⟩ = some (.int .i64 p.ip) := fun o => cell_past p1
        have yp2 : ∀ o, (wr.alloc o).cell? ⟨w2.heap.size, 2, none⟩ = some (.int .i64 p.space) := fun o => cell_past p2
        have yp3 : ∀ o, (wr.alloc o).cell? ⟨w2.heap.size, 3, none⟩ = some (.int .i64 p.labels) := fun o => cell_past p3
        cases hq1 : applies 2 p x
        · have HH := hid (show (c.pols.take (j + 1)).any (applies 2 p) = (c.pols.take j).any (applies 2 p) by rw [HT.out, hq1, Bool.or_false])
          have HG := hid (show ((c.pols.take (j + 1)).any fun q => applies 2 p q && letsGo c.pods 2 k k.src q) = false by rw [HL.out, HE.out, hq1]; rfl)
          go_wp2_with (go_at_call 42; refine (applies_in x _ _ _ _ _ _ p _ HPX.out HPP.out).mono ?_; rintro e w3 ⟨rfl, hb3⟩; obtain ⟨hc3, hf3⟩ := bcell hb3; have hz3 := hb_lt hb3; have e0 := cell_to (cell_past z0) hb3; have ek0 := cell_to (cell_past k0) hb3; have ek1 := cell_to (cell_past k1) hb3; have ek2 := cell_to (cell_past k2) hb3; have ek3 := cell_to (cell_past k3) hb3)
          exact ⟨⟨j + 1, by omega, by go_num, by rw [HH.out], HG.out, Ext.trans (Ext.alloc HW.out _) hb3⟩, by simp [intOf]; omega⟩
        · cases hq2 : letsGo c.pods 2 k k.src x
          · have HH := hid (show (c.pols.take (j + 1)).any (applies 2 p) = true by rw [HT.out, hq1, Bool.or_true])
            have HG := hid (show ((c.pols.take (j + 1)).any fun q => applies 2 p q && letsGo c.pods 2 k k.src q) = false by rw [HL.out, HE.out, hq1, hq2]; rfl)
            go_wp2_with (first
              | (go_at_call 42; refine (applies_in x _ _ _ _ _ _ p _ HPX.out HPP.out).mono ?_; rintro e w3 ⟨rfl, hb3⟩; obtain ⟨hc3, hf3⟩ := bcell hb3; have hz3 := hb_lt hb3; have e0 := cell_to (cell_past z0) hb3; have ek0 := cell_to (cell_past k0) hb3; have ek1 := cell_to (cell_past k1) hb3; have ek2 := cell_to (cell_past k2) hb3; have ek3 := cell_to (cell_past k3) hb3)
              | (go_at_call 43; refine (letsGo_in x _ _ _ _ _ c.pods _ k _ (rdRules.to HR.out (by repeat (first | exact Below.refl _ _ | assumption | apply Ext.alloc | apply Ext.drewN | apply Ext.drew | refine Ext.trans ?_ (by assumption)))) (rdPods.to HP.out (by repeat (first | exact Below.refl _ _ | assumption | apply Ext.alloc | apply Ext.drewN | apply Ext.drew | refine Ext.trans ?_ (by assumption)))) HC.out.1 HPX.out HK.out).mono ?_; rintro e w4 ⟨rfl, hb4⟩; obtain ⟨hc4, hf4⟩ := bcell hb4; have hz4 := hb_lt hb4))
            exact ⟨⟨j + 1, by omega, by go_num, by rw [HH.out], HG.out, Ext.trans (Ext.trans (Ext.alloc HW.out _) hb3) hb4⟩, by simp [intOf]; omega⟩
          · have HF := hid (may_true HA.out HX.out hq1 hq2)
            go_wp2_with (first
              | (go_at_call 42; refine (applies_in x _ _ _ _ _ _ p _ HPX.out HPP.out).mono ?_; rintro e w3 ⟨rfl, hb3⟩; obtain ⟨hc3, hf3⟩ := bcell hb3; have hz3 := hb_lt hb3; have e0 := cell_to (cell_past z0) hb3; have ek0 := cell_to (cell_past k0) hb3; have ek1 := cell_to (cell_past k1) hb3; have ek2 := cell_to (cell_past k2) hb3; have ek3 := cell_to (cell_past k3) hb3)
              | (go_at_call 43; refine (letsGo_in x _ _ _ _ _ c.pods _ k _ (rdRules.to HR.out (by repeat (first | exact Below.refl _ _ | assumption | apply Ext.alloc | apply Ext.drewN | apply Ext.drew | refine Ext.trans ?_ (by assumption)))) (rdPods.to HP.out (by repeat (first | exact Below.refl _ _ | assumption | apply Ext.alloc | apply Ext.drewN | apply Ext.drew | refine Ext.trans ?_ (by assumption)))) HC.out.1 HPX.out HK.out).mono ?_; rintro e w4 ⟨rfl, hb4⟩; obtain ⟨hc4, hf4⟩ := bcell hb4; have hz4 := hb_lt hb4))
            go_ret
            exact ⟨ret_bool (by rw [HF.out]), Ext.trans (Ext.trans (Ext.alloc hC _) hb3) hb4⟩
      · have e : c.pols.take j = c.pols := List.take_of_length_le (by omega)
        have HE2 := hid (show (c.pols.any fun q => applies 2 p q && letsGo c.pods 2 k k.src q) = false by rw [← e]; exact HE.out)
        have HF := hid (may_some HA.out HE2.out)
        have HT := hid e
        clear e
        rw [HT.out]
        go_wp2
        go_ret
        exact ⟨ret_bool (by rw [HF.out]), hC⟩
end Go.Proofs.Ytoaklngnpkaecaa
