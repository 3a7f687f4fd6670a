/-
  palisade.mayGo: the policies that apply, and what they let go (Out).
  The document's answer: the pod with an address; whether a peer has an address.
-/
import Derived.Test.YtmkjlhplgcifiaaGreatJ13
import Derived.Test.YtmkjlhplgcifiaaGreatJ09
namespace Go.Proofs.YtmkjlhplgcifiaaGreat
open Go.ChangeShapes Go.WideShapes Go.ChangeAt Go.RowKit
attribute [local simp] World.cell?_grow
attribute [local go_sem] World.cell?_grow
attribute [local simp] World.cell?_alloc_there
attribute [local go_sem] World.cell?_alloc_there
attribute [local go_sem] eqg_blk std_blk eqg_pod std_pod eqg_sel std_sel eqg_prt std_prt
attribute [local go_sem ↓] eql_blk eql_sel neq_sel eql_prt eql_pod
attribute [local go_sem ↓] met_in1 met_in2 met_re1 met_re2
attribute [local go_sem ↓] met_has1 met_has2
set_option linter.unusedVariables false
set_option linter.unusedSimpArgs false
def cluOk (c : DClu) : Prop := podsOk c.pods ∧ ∀ q ∈ c.pols, polOk q = true
theorem may_none {c : DClu} {way : Int} {k : DPkt} {near far : Int} (h : podAt c.pods near = none) : may c way k near far = true := by rw [may, h]
theorem may_held {c : DClu} {way : Int} {k : DPkt} {near far : Int} {p : DPod} (h : podAt c.pods near = some p) : may c way k near far = eoa (c.pols.filter (applies way p)) (letsGo c.pods way k far) := by
  rw [may, h]
  show (_ || _) = _
  unfold eoa
  rw [List.any_filter]
  congr 1
  induction c.pols with
  | nil => rfl
  | cons q t ih =>
    rw [List.all_cons, ih]
    cases ha : applies way p q
    · rw [List.filter_cons_of_neg (by simp [ha])]; simp
    · rw [List.filter_cons_of_pos ha]; simp
theorem anyPol (f : DPol → Bool) (k0 k1 k2 : Value) (a : Option Addr) (cap : Nat) (l : List DPol) (w : World) (hl : rdPols w.heap.size w a l)
    (hK : ∀ (x : DPol) (oa ia : Option Addr) (oc ic : Nat) (w1 : World), x ∈ l → Below w.heap.size w w1 → rdRules w1.heap.size w1 oa x.outs → rdRules w1.heap.size w1 ia x.ins → Calls Tryz.prog 96 #[.agg #[.int .i64 x.space, .int .i64 x.need, .int .i64 x.ban, .int .i64 x.ways, .slice oa x.outs.length oc, .slice ia x.ins.length ic], k0, k1, k2] w1 fun e w2 => e = .returned (.bool (f x)) ∧ Below w1.heap.size w1 w2) :
    Calls Tryz.prog 125 #[.slice a l.length cap, .func (.func 96) #[] #[k0, k1, k2]] w fun e w' => e = .returned (.bool (l.any f)) ∧ Below w.heap.size w w' := by
  have HK := hid hK
  obtain ⟨hlen, hl⟩ := hl
  have HL := hid hl
  clear hl hK
  go_enter Tryz.func125, Tryz.ntmps125
  go_wp2
  go_loopw [9] (fun i wr => ∃ k : Nat, k ≤ l.length ∧ i = .int .i64 k ∧ (l.take k).any f = false ∧ Below w.heap.size w wr) (fun i _ => l.length - (intOf i).toNat)
  case atStart => exact ⟨0, Nat.zero_le _, rfl, rfl, Below.refl _ _⟩
  case round =>
    obtain ⟨k, hk, rfl, hall, hbw⟩ := hrel
    have HA := hid hall
    clear hall
    by_cases hlt : k < l.length
    · obtain ⟨hc, hf⟩ := bcell hbw
      obtain ⟨x, hxk⟩ : ∃ x, l[k]? = some x := ⟨l[k], by simp [hlt]⟩
      have HX := hid hxk
      clear hxk
      obtain ⟨b, off, rfl, hb, c0, c1, c2, c3, ⟨oa, oc, c4, ho⟩, ia, ic, c5, hi2⟩ := HL.out k x HX.out
      have HO := hid ho
      have HI := hid hi2
      clear ho hi2
      cases hx : f x
      · go_wp2_with (go_at_call 96; refine (HK.out x oa ia oc ic _ (List.mem_of_getElem? HX.out) (by repeat (first | exact Below.refl _ _ | assumption | apply Ext.alloc | apply Ext.drewN | apply Ext.drew | refine Ext.trans ?_ (by assumption))) (rdRules.to HO.out (by repeat (first | exact Below.refl _ _ | assumption | apply Ext.alloc | apply Ext.drewN | apply Ext.drew | refine Ext.trans ?_ (by assumption)))) (rdRules.to HI.out (by repeat (first | exact Below.refl _ _ | assumption | apply Ext.alloc | apply Ext.drewN | apply Ext.drew | refine Ext.trans ?_ (by assumption))))).mono ?_; rintro e w1 ⟨rfl, hb1⟩)
        exact ⟨⟨k + 1, by omega, by go_num, take_any HX.out HA.out hx, (by repeat (first | exact Below.refl _ _ | assumption | apply Ext.alloc | apply Ext.drewN | apply Ext.drew | refine Ext.trans ?_ (by assumption)))⟩, by simp [intOf]; omega⟩
      · go_wp2_with (go_at_call 96; refine (HK.out x oa ia oc ic _ (List.mem_of_getElem? HX.out) (by repeat (first | exact Below.refl _ _ | assumption | apply Ext.alloc | apply Ext.drewN | apply Ext.drew | refine Ext.trans ?_ (by assumption))) (rdRules.to HO.out (by repeat (first | exact Below.refl _ _ | assumption | apply Ext.alloc | apply Ext.drewN | apply Ext.drew | refine Ext.trans ?_ (by assumption)))) (rdRules.to HI.out (by repeat (first | exact Below.refl _ _ | assumption | apply Ext.alloc | apply Ext.drewN | apply Ext.drew | refine Ext.trans ?_ (by assumption))))).mono ?_; rintro e w1 ⟨rfl, hb1⟩)
        go_ret
        exact ⟨ret_bool (by rw [any_true HX.out hx]), (by repeat (first | exact Below.refl _ _ | assumption | apply Ext.alloc | apply Ext.drewN | apply Ext.drew | refine Ext.trans ?_ (by assumption)))⟩
    · go_wp2
      go_ret
      have := HA.out
      rw [List.take_of_length_le (by omega)] at this
      exact ⟨ret_bool (by rw [this]), hbw⟩
theorem eoaPol (f : DPol → Bool) (k0 k1 k2 : Value) (a : Option Addr) (cap : Nat) (l : List DPol) (w : World) (hl : rdPols w.heap.size w a l)
    (hK : ∀ (x : DPol) (oa ia : Option Addr) (oc ic : Nat) (w1 : World), x ∈ l → Below w.heap.size w w1 → rdRules w1.heap.size w1 oa x.outs → rdRules w1.heap.size w1 ia x.ins → Calls Tryz.prog 96 #[.agg #[.int .i64 x.space, .int .i64 x.need, .int .i64 x.ban, .int .i64 x.ways, .slice oa x.outs.length oc, .slice ia x.ins.length ic], k0, k1, k2] w1 fun e w2 => e = .returned (.bool (f x)) ∧ Below w1.heap.size w1 w2) :
    Calls Tryz.prog 95 #[.slice a l.length cap, .func (.func 96) #[] #[k0, k1, k2]] w fun e w' => e = .returned (.bool (eoa l f)) ∧ Below w.heap.size w w' := by
  have HK := hid hK
  have HL := hid hl
  have hlen := hl.1
  clear hK hl
  by_cases h : l.length = 0
  · have HF := hid (show eoa l f = true by simp [eoa, h])
    have h2 : ((l.length : Int) == 0) = true := by simp [h]
    go_enter Tryz.func95, Tryz.ntmps95
    go_wp2
    go_ret
    exact ⟨ret_bool (by rw [HF.out]), (by repeat (first | exact Below.refl _ _ | assumption | apply Ext.alloc | apply Ext.drewN | apply Ext.drew | refine Ext.trans ?_ (by assumption)))⟩
  · have HF := hid (show eoa l f = l.any f by simp [eoa, h])
    have h2 : ((l.length : Int) == 0) = false := by simp [h]
    go_enter Tryz.func95, Tryz.ntmps95
    go_wp2_with (go_at_call 125; refine (anyPol f _ _ _ _ _ _ _ HL.out HK.out).mono ?_; rintro e w1 ⟨rfl, hb1⟩)
    go_ret
    exact ⟨ret_bool (by rw [HF.out]), (by repeat (first | exact Below.refl _ _ | assumption | apply Ext.alloc | apply Ext.drewN | apply Ext.drew | refine Ext.trans ?_ (by assumption)))⟩
theorem appClo_out (x : DPol) (oa ia : Option Addr) (on inn oc ic : Nat) (p : DPod) (wb pb : Nat) (w : World) (hq : polOk x = true) (hp : podOk p = true)
    (cw : w.cell? ⟨wb, 0, none⟩ = some (.int .i64 1)) (c0 : w.cell? ⟨pb, 0, none⟩ = some (.int .i64 p.host)) (c1 : w.cell? ⟨pb, 1, none⟩ = some (.int .i64 p.ip)) (c2 : w.cell? ⟨pb, 2, none⟩ = some (.int .i64 p.space)) (c3 : w.cell? ⟨pb, 3, none⟩ = some (.int .i64 p.labels)) :
    Calls Tryz.prog 123 #[.agg #[.int .i64 x.space, .int .i64 x.need, .int .i64 x.ban, .int .i64 x.ways, .slice oa on oc, .slice ia inn ic], .pointer (some ⟨wb, 0, none⟩), .pointer (some ⟨pb, 0, none⟩)] w fun e w' => e = .returned (.bool (applies 1 p x)) ∧ Below w.heap.size w w' := by
  have l1 := cell_lt cw
  have l2 := cell_lt c0
  have HQ := hid hq
  have HP := hid hp
  clear hq hp
  go_enter Tryz.func123, Tryz.ntmps123
  go_wp2_with (go_at_call 124; refine (applies_out x _ _ _ _ _ _ p _ HQ.out HP.out).mono ?_; rintro e w1 ⟨rfl, hb1⟩; obtain ⟨hc1, hf1⟩ := bcell hb1; have hz1 := hb_lt hb1)
  go_ret
  exact ⟨rfl, (by repeat (first | exact Below.refl _ _ | assumption | apply Ext.alloc | apply Ext.drewN | apply Ext.drew | refine Ext.trans ?_ (by assumption)))⟩
set_option maxHeartbeats 1000000 in
theorem applying_out (p : DPod) (l : List DPol) (qa : Option Addr) (qc : Nat) (w : World) (hq : rdPols w.heap.size w qa l) (hok : ∀ q ∈ l, polOk q = true) (hp : podOk p = true) :
    Calls Tryz.prog 94 #[.slice qa l.length qc, .int .i64 1, .agg #[.int .i64 p.host, .int .i64 p.ip, .int .i64 p.space, .int .i64 p.labels]] w fun e w' => (∃ a' c', e = .returned (.slice a' (l.filter (applies 1 p)).length c') ∧ rdPols w'.heap.size w' a' (l.filter (applies 1 p))) ∧ Below w.heap.size w w' := by
  have HQ := hid hq
  have HO := hid hok
  have HP := hid hp
  have hmf := mkFunc
  clear hq hok hp
  go_enter Tryz.func94, Tryz.ntmps94
  go_wp2_with (go_at_call 122; go_must (refine (keepPol (applies 1 p) _ _ _ _ _ _ (rdPols.to HQ.out (by repeat (first | exact Below.refl _ _ | assumption | apply Ext.alloc | apply Ext.drewN | apply Ext.drew | refine Ext.trans ?_ (by assumption)))) (fun x oa ia oc ic w2 hx hb2 _ _ => appClo_out x oa ia _ _ oc ic p _ _ w2 (HO.out x hx) HP.out (cell_to (by simp [go_sem]) hb2) (cell_to (by simp [go_sem]) hb2) (cell_to (by simp [go_sem]) hb2) (cell_to (by simp [go_sem]) hb2) (cell_to (by simp [go_sem]) hb2))).mono ?_); rintro e w3 ⟨⟨a', c', rfl, hr3⟩, hb3⟩; have HR3 := hid hr3; clear hr3)
  go_ret
  exact ⟨⟨_, _, rfl, HR3.out⟩, (by repeat (first | exact Below.refl _ _ | assumption | apply Ext.alloc | apply Ext.drewN | apply Ext.drew | refine Ext.trans ?_ (by assumption)))⟩
theorem mayClo_out (x : DPol) (oa ia : Option Addr) (oc ic : Nat) (sa : Option Addr) (pods : List DPod) (sc : Nat) (k : DPkt) (wb cb kb : Nat) (w : World)
    (hr : rdRules w.heap.size w oa x.outs) (hd : rdPods w.heap.size w sa pods) (ho : podsOk pods) (hq : polOk x = true) (hk : pktOk k = true)
    (cw : w.cell? ⟨wb, 0, none⟩ = some (.int .i64 1)) (cc : w.cell? ⟨cb, 0, none⟩ = some (.slice sa pods.length sc)) (c0 : w.cell? ⟨kb, 0, none⟩ = some (.int .i64 k.src)) (c1 : w.cell? ⟨kb, 1, none⟩ = some (.int .i64 k.dst)) (c2 : w.cell? ⟨kb, 2, none⟩ = some (.int .i64 k.proto)) (c3 : w.cell? ⟨kb, 3, none⟩ = some (.int .i64 k.port)) :
    Calls Tryz.prog 96 #[.agg #[.int .i64 x.space, .int .i64 x.need, .int .i64 x.ban, .int .i64 x.ways, .slice oa x.outs.length oc, .slice ia x.ins.length ic], .pointer (some ⟨wb, 0, none⟩), .pointer (some ⟨cb, 0, none⟩), .pointer (some ⟨kb, 0, none⟩)] w fun e w' => e = .returned (.bool (letsGo pods 1 k k.dst x)) ∧ Below w.heap.size w w' := by
  have l1 := cell_lt cw
  have l2 := cell_lt cc
  have l3 := cell_lt c0
  have HR := hid hr
  have HD := hid hd
  have HO := hid ho
  have HQ := hid hq
  have HK := hid hk
  clear hr hd ho hq hk
  go_enter Tryz.func96, Tryz.ntmps96
  go_wp2_with (go_at_call 97; refine (letsGo_out x _ _ _ _ _ pods _ k _ (rdRules.to HR.out (by repeat (first | exact Below.refl _ _ | assumption | apply Ext.alloc | apply Ext.drewN | apply Ext.drew | refine Ext.trans ?_ (by assumption)))) (rdPods.to HD.out (by repeat (first | exact Below.refl _ _ | assumption | apply Ext.alloc | apply Ext.drewN | apply Ext.drew | refine Ext.trans ?_ (by assumption)))) HO.out HQ.out HK.out).mono ?_; rintro e w1 ⟨rfl, hb1⟩; obtain ⟨hc1, hf1⟩ := bcell hb1; have hz1 := hb_lt hb1)
  go_ret
  exact ⟨rfl, (by repeat (first | exact Below.refl _ _ | assumption | apply Ext.alloc | apply Ext.drewN | apply Ext.drew | refine Ext.trans ?_ (by assumption)))⟩
set_option maxHeartbeats 4000000 in
theorem mayGo_out (c : DClu) (k : DPkt) (pa qa : Option Addr) (pc qc : Nat) (w : World) (hp : rdPods w.heap.size w pa c.pods) (hq : rdPols w.heap.size w qa c.pols) (hc : cluOk c) (hk : pktOk k = true) :
    Calls Tryz.prog 57 #[.agg #[.slice pa c.pods.length pc, .slice qa c.pols.length qc], .int .i64 1, .agg #[.int .i64 k.src, .int .i64 k.dst, .int .i64 k.proto, .int .i64 k.port]] w fun e w' => e = .returned (.bool (may c 1 k k.src k.dst)) ∧ Below w.heap.size w w' := by
  have HP := hid hp
  have HQ := hid hq
  have HC := hid hc
  have HK := hid hk
  have hl2 := hq.1
  have hmf := mkFunc
  clear hp hq hc hk
  cases hpa : podAt c.pods k.src with
  | none =>
    have HA := hid hpa
    have HF := hid (may_none (way := 1) (k := k) (far := k.dst) hpa)
    clear hpa
    go_enter Tryz.func57, Tryz.ntmps57
    go_wp2_with (first
      | (go_at_call 92; refine (ends_out k _).mono ?_; rintro e w1 ⟨rfl, hb1⟩; obtain ⟨hc1, hf1⟩ := bcell hb1; have hz1 := hb_lt hb1)
      | (go_at_call 93; refine (at_any _ _ c.pods _ _ (rdPods.to HP.out (by repeat (first | exact Below.refl _ _ | assumption | apply Ext.alloc | apply Ext.drewN | apply Ext.drew | refine Ext.trans ?_ (by assumption))))).mono ?_; rw [HA.out, atV]; rintro e w2 ⟨rfl, hb2⟩; obtain ⟨hc2, hf2⟩ := bcell hb2; have hz2 := hb_lt hb2))
    go_ret
    exact ⟨ret_bool (by rw [HF.out]), (by repeat (first | exact Below.refl _ _ | assumption | apply Ext.alloc | apply Ext.drewN | apply Ext.drew | refine Ext.trans ?_ (by assumption)))⟩
  | some p =>
    have HA := hid hpa
    have HPP := hid (HC.out.1.1 p (List.mem_of_find?_eq_some hpa))
    have HF := hid (may_held (way := 1) (k := k) (far := k.dst) hpa)
    clear hpa
    go_enter Tryz.func57, Tryz.ntmps57
    go_wp2_with (first
      | (go_at_call 92; refine (ends_out k _).mono ?_; rintro e w1 ⟨rfl, hb1⟩; obtain ⟨hc1, hf1⟩ := bcell hb1; have hz1 := hb_lt hb1; have ec0 : w1.cell? ⟨w.heap.size, 0, none⟩ = some (.slice pa c.pods.length pc) := cell_to (by simp [go_sem]) hb1; have ec1 : w1.cell? ⟨w.heap.size, 1, none⟩ = some (.slice qa c.pols.length qc) := cell_to (by simp [go_sem]) hb1; have ew : w1.cell? ⟨w.heap.size + 1, 0, none⟩ = some (.int .i64 1) := cell_to (by simp [go_sem]) hb1; have ek0 : w1.cell? ⟨w.heap.size + 1 + 1, 0, none⟩ = some (.int .i64 k.src) := cell_to (by simp [go_sem]) hb1; have ek1 : w1.cell? ⟨w.heap.size + 1 + 1, 1, none⟩ = some (.int .i64 k.dst) := cell_to (by simp [go_sem]) hb1; have ek2 : w1.cell? ⟨w.heap.size + 1 + 1, 2, none⟩ = some (.int .i64 k.proto) := cell_to (by simp [go_sem]) hb1; have ek3 : w1.cell? ⟨w.heap.size + 1 + 1, 3, none⟩ = some (.int .i64 k.port) := cell_to (by simp [go_sem]) hb1)
      | (go_at_call 93; refine (at_any _ _ c.pods _ _ (rdPods.to HP.out (by repeat (first | exact Below.refl _ _ | assumption | apply Ext.alloc | apply Ext.drewN | apply Ext.drew | refine Ext.trans ?_ (by assumption))))).mono ?_; rw [HA.out, atV]; rintro e w2 ⟨rfl, hb2⟩; obtain ⟨hc2, hf2⟩ := bcell hb2; have hz2 := hb_lt hb2; have fc0 := cell_to ec0 hb2; have fc1 := cell_to ec1 hb2; have fw := cell_to ew hb2; have fk0 := cell_to ek0 hb2; have fk1 := cell_to ek1 hb2; have fk2 := cell_to ek2 hb2; have fk3 := cell_to ek3 hb2; have ed0 : ∀ o, (w2.alloc o).cell? ⟨w.heap.size, 0, none⟩ = some (.slice pa c.pods.length pc) := fun o => cell_past fc0; have ed1 : ∀ o, (w2.alloc o).cell? ⟨w.heap.size, 1, none⟩ = some (.slice qa c.pols.length qc) := fun o => cell_past fc1; have edw : ∀ o, (w2.alloc o).cell? ⟨w.heap.size + 1, 0, none⟩ = some (.int .i64 1) := fun o => cell_past fw)
      | (go_at_call 94; refine (applying_out p c.pols _ _ _ (rdPols.to HQ.out (by repeat (first | exact Below.refl _ _ | assumption | apply Ext.alloc | apply Ext.drewN | apply Ext.drew | refine Ext.trans ?_ (by assumption)))) HC.out.2 HPP.out).mono ?_; rintro e w3 ⟨⟨a', c', rfl, hr3⟩, hb3⟩; have HR3 := hid hr3; clear hr3; have hz3 := hb_lt hb3)
      | (go_at_call 95; go_must (refine (eoaPol (letsGo c.pods 1 k k.dst) _ _ _ _ _ _ _ HR3.out (fun x oa ia oc ic w4 hx hb4 hro hri => mayClo_out x oa ia oc ic pa c.pods pc k _ _ _ w4 hro (rdPods.to (rdPods.to HP.out (by repeat (first | exact Below.refl _ _ | assumption | apply Ext.alloc | apply Ext.drewN | apply Ext.drew | refine Ext.trans ?_ (by assumption)))) hb4) HC.out.1 (HC.out.2 x (List.mem_filter.1 hx).1) HK.out (cell_to (cell_to (cell_past fw) hb3) hb4) (cell_to (cell_to (cell_past fc0) hb3) hb4) (cell_to (cell_to (cell_past fk0) hb3) hb4) (cell_to (cell_to (cell_past fk1) hb3) hb4) (cell_to (cell_to (cell_past fk2) hb3) hb4) (cell_to (cell_to (cell_past fk3) hb3) hb4))).mono ?_); rintro e w4 ⟨rfl, hb4⟩; obtain ⟨hc4, hf4⟩ := bcell hb4; have hz4 := hb_lt hb4))
    go_ret
    exact ⟨ret_bool (by rw [HF.out]), (by repeat (first | exact Below.refl _ _ | assumption | apply Ext.alloc | apply Ext.drewN | apply Ext.drew | refine Ext.trans ?_ (by assumption)))⟩
end Go.Proofs.YtmkjlhplgcifiaaGreat
namespace Go.Proofs.YtmkjlhplgcifiaaGreat
open Go.ChangeShapes Go.WideShapes Go.ChangeAt Go.RowKit
attribute [local simp] World.cell?_grow
attribute [local go_sem] World.cell?_grow
attribute [local simp] World.cell?_alloc_there
attribute [local go_sem] World.cell?_alloc_there
attribute [local go_sem] eqg_blk std_blk eqg_pod std_pod eqg_sel std_sel eqg_prt std_prt
attribute [local go_sem ↓] eql_blk eql_sel neq_sel eql_prt eql_pod
attribute [local go_sem ↓] met_in1 met_in2 met_re1 met_re2
attribute [local go_sem ↓] met_has1 met_has2
set_option linter.unusedVariables false
set_option linter.unusedSimpArgs false
def ixOf (l : List DPod) (ip : Int) : Int := match l.findIdx? (fun p => decide (p.ip = ip)) with | some k => k | none => -1
theorem ix_at {l : List DPod} {k : Nat} {x : DPod} {ip : Int} (h : l[k]? = some x) (hb : ∀ j y, j < k → l[j]? = some y → ¬ y.ip = ip) (hx : x.ip = ip) : ixOf l ip = k := by
  obtain ⟨hk, he⟩ := List.getElem?_eq_some_iff.1 h
  have : l.findIdx? (fun p => decide (p.ip = ip)) = some k := by
    rw [List.findIdx?_eq_some_iff_getElem]
    refine ⟨hk, by simp [he, hx], fun j hj => ?_⟩
    have := hb j l[j] hj (by simp)
    simp [this]
  rw [ixOf, this]
theorem ix_none {l : List DPod} {ip : Int} (hb : ∀ j y, j < l.length → l[j]? = some y → ¬ y.ip = ip) : ixOf l ip = -1 := by
  have : l.findIdx? (fun p => decide (p.ip = ip)) = none := by
    rw [List.findIdx?_eq_none_iff]
    intro x hx
    obtain ⟨j, hj, he⟩ := List.getElem_of_mem hx
    have := hb j x hj (by rw [List.getElem?_eq_getElem hj, he])
    simp [this]
  rw [ixOf, this]
theorem podAt_ix {l : List DPod} {ip : Int} {p : DPod} (h : podAt l ip = some p) : ∃ k : Nat, l[k]? = some p ∧ ixOf l ip = k := by
  unfold podAt at h
  rw [List.find?_eq_some_iff_getElem] at h
  obtain ⟨hp, k, hk, he, hb⟩ := h
  have hk2 : l[k]? = some p := by rw [List.getElem?_eq_getElem hk, he]
  refine ⟨k, hk2, ix_at hk2 (fun j y hj hy => ?_) (by simpa using hp)⟩
  have := hb j hj
  obtain ⟨h1, h2⟩ := List.getElem?_eq_some_iff.1 hy
  rw [h2] at this
  simpa using this
end Go.Proofs.YtmkjlhplgcifiaaGreat
