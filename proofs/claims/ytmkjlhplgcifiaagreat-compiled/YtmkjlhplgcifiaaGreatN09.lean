/-
  palisade.mayGo: the policies that apply, and what they let go (Out).
  The document's answer: the pod with an address; whether a peer has an address.
  palisadekeep: raw things made right: pick, selector, block; at, has.
  append(x, y...): what is appended may be nil.
  A list that grows by appending beside other memory: what lies elsewhere stays.
-/
import Derived.Test.YtmkjlhplgcifiaaGreatN08
import Derived.Test.YtmkjlhplgcifiaaGreatN05
import Derived.Test.YtmkjlhplgcifiaaGreatN01
import Derived.Test.YtmkjlhplgcifiaaGreatN02
import Derived.Test.YtmkjlhplgcifiaaGreatN04
import Derived.Laws.Append
import Derived.Laws.AppendOwn
import Derived.Maps.AppendAt
namespace Go.Proofs.YtmkjlhplgcifiaaGreat
open Go.ChangeShapes Go.WideShapes Go.ChangeAt Go.RowKit
attribute [local simp] World.cell?_grow
attribute [local go_sem] World.cell?_grow
attribute [local simp] World.cell?_alloc_there
attribute [local go_sem] World.cell?_alloc_there
attribute [local go_sem] eqg_blk std_blk eqg_pod std_pod eqg_sel std_sel eqg_prt std_prt
attribute [local go_sem ↓] eql_blk eql_sel neq_sel eql_prt eql_pod
attribute [local go_sem ↓] met_in1 met_in2 met_re1 met_re2
attribute [local go_sem ↓] met_has1 met_has2
set_option linter.unusedVariables false
set_option linter.unusedSimpArgs false
def cluOk (c : DClu) : Prop := podsOk c.pods ∧ ∀ q ∈ c.pols, polOk q = true
theorem may_none {c : DClu} {way : Int} {k : DPkt} {near far : Int} (h : podAt c.pods near = none) : may c way k near far = true := by rw [may, h]
theorem may_held {c : DClu} {way : Int} {k : DPkt} {near far : Int} {p : DPod} (h : podAt c.pods near = some p) : may c way k near far = eoa (c.pols.filter (applies way p)) (letsGo c.pods way k far) := by
  rw [may, h]
  show (_ || _) = _
  unfold eoa
  rw [List.any_filter]
  congr 1
  induction c.pols with
  | nil => rfl
  | cons q t ih =>
    rw [List.all_cons, ih]
    cases ha : applies way p q
    · rw [List.filter_cons_of_neg (by simp [ha])]; simp
    · rw [List.filter_cons_of_pos ha]; simp
theorem may_true {c : DClu} {way : Int} {k : DPkt} {near far : Int} {p : DPod} {q : DPol} {j : Nat} (h : podAt c.pods near = some p) (hq : c.pols[j]? = some q) (ha : applies way p q = true) (hl : letsGo c.pods way k far q = true) : may c way k near far = true := by
  rw [may, h]
  show (_ || _) = true
  rw [any_true hq (f := fun q => applies way p q && letsGo c.pods way k far q) (by simp [ha, hl])]
  simp
theorem may_some {c : DClu} {way : Int} {k : DPkt} {near far : Int} {p : DPod} (h : podAt c.pods near = some p) (hl : (c.pols.any fun q => applies way p q && letsGo c.pods way k far q) = false) : may c way k near far = !(c.pols.any (applies way p)) := by
  rw [may, h]
  show (_ || _) = _
  rw [hl, Bool.or_false, List.not_any_eq_all_not]
theorem take_any' {α : Type} {l : List α} {f : α → Bool} {k : Nat} {x : α} (h : l[k]? = some x) : (l.take (k + 1)).any f = ((l.take k).any f || f x) := by
  rw [List.take_add_one, h, List.any_append]; simp
theorem anyPol (f : DPol → Bool) (k0 k1 k2 : Value) (a : Option Addr) (cap : Nat) (l : List DPol) (w : World) (hl : rdPols w.heap.size w a l)
    (hK : ∀ (x : DPol) (oa ia : Option Addr) (oc ic : Nat) (w1 : World), x ∈ l → Below w.heap.size w w1 → rdRules w1.heap.size w1 oa x.outs → rdRules w1.heap.size w1 ia x.ins → Calls Tryz.prog 96 #[.agg #[.int .i64 x.space, .int .i64 x.need, .int .i64 x.ban, .int .i64 x.ways, .slice oa x.outs.length oc, .slice ia x.ins.length ic], k0, k1, k2] w1 fun e w2 => e = .returned (.bool (f x)) ∧ Below w1.heap.size w1 w2) :
    Calls Tryz.prog 125 #[.slice a l.length cap, .func (.func 96) #[] #[k0, k1, k2]] w fun e w' => e = .returned (.bool (l.any f)) ∧ Below w.heap.size w w' := by
  have HK := hid hK
  obtain ⟨hlen, hl⟩ := hl
  have HL := hid hl
  clear hl hK
  go_enter Tryz.func125, Tryz.ntmps125
  go_wp2
  go_loopw [9] (fun i wr => ∃ k : Nat, k ≤ l.length ∧ i = .int .i64 k ∧ (l.take k).any f = false ∧ Below w.heap.size w wr) (fun i _ => l.length - (intOf i).toNat)
  case atStart => exact ⟨0, Nat.zero_le _, rfl, rfl, Below.refl _ _⟩
  case round =>
    obtain ⟨k, hk, rfl, hall, hbw⟩ := hrel
    have HA := hid hall
    clear hall
    by_cases hlt : k < l.length
    · obtain ⟨hc, hf⟩ := bcell hbw
      obtain ⟨x, hxk⟩ : ∃ x, l[k]? = some x := ⟨l[k], by simp [hlt]⟩
      have HX := hid hxk
      clear hxk
      obtain ⟨b, off, rfl, hb, c0, c1, c2, c3, ⟨oa, oc, c4, ho⟩, ia, ic, c5, hi2⟩ := HL.out k x HX.out
      have HO := hid ho
      have HI := hid hi2
      clear ho hi2
      cases hx : f x
      · go_wp2_with (go_at_call 96; refine (HK.out x oa ia oc ic _ (List.mem_of_getElem? HX.out) (by repeat (first | exact Below.refl _ _ | assumption | apply Ext.alloc | apply Ext.drewN | apply Ext.drew | refine Ext.trans ?_ (by assumption))) (rdRules.to HO.out (by repeat (first | exact Below.refl _ _ | assumption | apply Ext.alloc | apply Ext.drewN | apply Ext.drew | refine Ext.trans ?_ (by assumption)))) (rdRules.to HI.out (by repeat (first | exact Below.refl _ _ | assumption | apply Ext.alloc | apply Ext.drewN | apply Ext.drew | refine Ext.trans ?_ (by assumption))))).mono ?_; rintro e w1 ⟨rfl, hb1⟩)
        exact ⟨⟨k + 1, by omega, by go_num, take_any HX.out HA.out hx, (by repeat (first | exact Below.refl _ _ | assumption | apply Ext.alloc | apply Ext.drewN | apply Ext.drew | refine Ext.trans ?_ (by assumption)))⟩, by simp [intOf]; omega⟩
      · go_wp2_with (go_at_call 96; refine (HK.out x oa ia oc ic _ (List.mem_of_getElem? HX.out) (by repeat (first | exact Below.refl _ _ | assumption | apply Ext.alloc | apply Ext.drewN | apply Ext.drew | refine Ext.trans ?_ (by assumption))) (rdRules.to HO.out (by repeat (first | exact Below.refl _ _ | assumption | apply Ext.alloc | apply Ext.drewN | apply Ext.drew | refine Ext.trans ?_ (by assumption)))) (rdRules.to HI.out (by repeat (first | exact Below.refl _ _ | assumption | apply Ext.alloc | apply Ext.drewN | apply Ext.drew | refine Ext.trans ?_ (by assumption))))).mono ?_; rintro e w1 ⟨rfl, hb1⟩)
        go_ret
        exact ⟨ret_bool (by rw [any_true HX.out hx]), (by repeat (first | exact Below.refl _ _ | assumption | apply Ext.alloc | apply Ext.drewN | apply Ext.drew | refine Ext.trans ?_ (by assumption)))⟩
    · go_wp2
      go_ret
      have := HA.out
      rw [List.take_of_length_le (by omega)] at this
      exact ⟨ret_bool (by rw [this]), hbw⟩
theorem eoaPol (f : DPol → Bool) (k0 k1 k2 : Value) (a : Option Addr) (cap : Nat) (l : List DPol) (w : World) (hl : rdPols w.heap.size w a l)
    (hK : ∀ (x : DPol) (oa ia : Option Addr) (oc ic : Nat) (w1 : World), x ∈ l → Below w.heap.size w w1 → rdRules w1.heap.size w1 oa x.outs → rdRules w1.heap.size w1 ia x.ins → Calls Tryz.prog 96 #[.agg #[.int .i64 x.space, .int .i64 x.need, .int .i64 x.ban, .int .i64 x.ways, .slice oa x.outs.length oc, .slice ia x.ins.length ic], k0, k1, k2] w1 fun e w2 => e = .returned (.bool (f x)) ∧ Below w1.heap.size w1 w2) :
    Calls Tryz.prog 95 #[.slice a l.length cap, .func (.func 96) #[] #[k0, k1, k2]] w fun e w' => e = .returned (.bool (eoa l f)) ∧ Below w.heap.size w w' := by
  have HK := hid hK
  have HL := hid hl
  have hlen := hl.1
  clear hK hl
  by_cases h : l.length = 0
  · have HF := hid (show eoa l f = true by simp [eoa, h])
    have h2 : ((l.length : Int) == 0) = true := by simp [h]
    go_enter Tryz.func95, Tryz.ntmps95
    go_wp2
    go_ret
    exact ⟨ret_bool (by rw [HF.out]), (by repeat (first | exact Below.refl _ _ | assumption | apply Ext.alloc | apply Ext.drewN | apply Ext.drew | refine Ext.trans ?_ (by assumption)))⟩
  · have HF := hid (show eoa l f = l.any f by simp [eoa, h])
    have h2 : ((l.length : Int) == 0) = false := by simp [h]
    go_enter Tryz.func95, Tryz.ntmps95
    go_wp2_with (go_at_call 125; refine (anyPol f _ _ _ _ _ _ _ HL.out HK.out).mono ?_; rintro e w1 ⟨rfl, hb1⟩)
    go_ret
    exact ⟨ret_bool (by rw [HF.out]), (by repeat (first | exact Below.refl _ _ | assumption | apply Ext.alloc | apply Ext.drewN | apply Ext.drew | refine Ext.trans ?_ (by assumption)))⟩
theorem appClo_out (x : DPol) (oa ia : Option Addr) (on inn oc ic : Nat) (p : DPod) (wb pb : Nat) (w : World) (hq : polOk x = true) (hp : podOk p = true)
    (cw : w.cell? ⟨wb, 0, none⟩ = some (.int .i64 1)) (c0 : w.cell? ⟨pb, 0, none⟩ = some (.int .i64 p.host)) (c1 : w.cell? ⟨pb, 1, none⟩ = some (.int .i64 p.ip)) (c2 : w.cell? ⟨pb, 2, none⟩ = some (.int .i64 p.space)) (c3 : w.cell? ⟨pb, 3, none⟩ = some (.int .i64 p.labels)) :
    Calls Tryz.prog 123 #[.agg #[.int .i64 x.space, .int .i64 x.need, .int .i64 x.ban, .int .i64 x.ways, .slice oa on oc, .slice ia inn ic], .pointer (some ⟨wb, 0, none⟩), .pointer (some ⟨pb, 0, none⟩)] w fun e w' => e = .returned (.bool (applies 1 p x)) ∧ Below w.heap.size w w' := by
  have l1 := cell_lt cw
  have l2 := cell_lt c0
  have HQ := hid hq
  have HP := hid hp
  clear hq hp
  go_enter Tryz.func123, Tryz.ntmps123
  go_wp2_with (go_at_call 124; refine (applies_out x _ _ _ _ _ _ p _ HQ.out HP.out).mono ?_; rintro e w1 ⟨rfl, hb1⟩; obtain ⟨hc1, hf1⟩ := bcell hb1; have hz1 := hb_lt hb1)
  go_ret
  exact ⟨rfl, (by repeat (first | exact Below.refl _ _ | assumption | apply Ext.alloc | apply Ext.drewN | apply Ext.drew | refine Ext.trans ?_ (by assumption)))⟩
set_option maxHeartbeats 1000000 in
theorem applying_out (p : DPod) (l : List DPol) (qa : Option Addr) (qc : Nat) (w : World) (hq : rdPols w.heap.size w qa l) (hok : ∀ q ∈ l, polOk q = true) (hp : podOk p = true) :
    Calls Tryz.prog 94 #[.slice qa l.length qc, .int .i64 1, .agg #[.int .i64 p.host, .int .i64 p.ip, .int .i64 p.space, .int .i64 p.labels]] w fun e w' => (∃ a' c', e = .returned (.slice a' (l.filter (applies 1 p)).length c') ∧ rdPols w'.heap.size w' a' (l.filter (applies 1 p))) ∧ Below w.heap.size w w' := by
  have HQ := hid hq
  have HO := hid hok
  have HP := hid hp
  have hmf := mkFunc
  clear hq hok hp
  go_enter Tryz.func94, Tryz.ntmps94
  go_wp2_with (go_at_call 122; go_must (refine (keepPol (applies 1 p) _ _ _ _ _ _ (rdPols.to HQ.out (by repeat (first | exact Below.refl _ _ | assumption | apply Ext.alloc | apply Ext.drewN | apply Ext.drew | refine Ext.trans ?_ (by assumption)))) (fun x oa ia oc ic w2 hx hb2 _ _ => appClo_out x oa ia _ _ oc ic p _ _ w2 (HO.out x hx) HP.out (cell_to (by simp [go_sem]) hb2) (cell_to (by simp [go_sem]) hb2) (cell_to (by simp [go_sem]) hb2) (cell_to (by simp [go_sem]) hb2) (cell_to (by simp [go_sem]) hb2))).mono ?_); rintro e w3 ⟨⟨a', c', rfl, hr3⟩, hb3⟩; have HR3 := hid hr3; clear hr3)
  go_ret
  exact ⟨⟨_, _, rfl, HR3.out⟩, (by repeat (first | exact Below.refl _ _ | assumption | apply Ext.alloc | apply Ext.drewN | apply Ext.drew | refine Ext.trans ?_ (by assumption)))⟩
theorem mayClo_out (x : DPol) (oa ia : Option Addr) (oc ic : Nat) (sa : Option Addr) (pods : List DPod) (sc : Nat) (k : DPkt) (wb cb kb : Nat) (w : World)
    (hr : rdRules w.heap.size w oa x.outs) (hd : rdPods w.heap.size w sa pods) (ho : podsOk pods) (hq : polOk x = true) (hk : pktOk k = true)
    (cw : w.cell? ⟨wb, 0, none⟩ = some (.int .i64 1)) (cc : w.cell? ⟨cb, 0, none⟩ = some (.slice sa pods.length sc)) (c0 : w.cell? ⟨kb, 0, none⟩ = some (.int .i64 k.src)) (c1 : w.cell? ⟨kb, 1, none⟩ = some (.int .i64 k.dst)) (c2 : w.cell? ⟨kb, 2, none⟩ = some (.int .i64 k.proto)) (c3 : w.cell? ⟨kb, 3, none⟩ = some (.int .i64 k.port)) :
    Calls Tryz.prog 96 #[.agg #[.int .i64 x.space, .int .i64 x.need, .int .i64 x.ban, .int .i64 x.ways, .slice oa x.outs.length oc, .slice ia x.ins.length ic], .pointer (some ⟨wb, 0, none⟩), .pointer (some ⟨cb, 0, none⟩), .pointer (some ⟨kb, 0, none⟩)] w fun e w' => e = .returned (.bool (letsGo pods 1 k k.dst x)) ∧ Below w.heap.size w w' := by
  have l1 := cell_lt cw
  have l2 := cell_lt cc
  have l3 := cell_lt c0
  have HR := hid hr
  have HD := hid hd
  have HO := hid ho
  have HQ := hid hq
  have HK := hid hk
  clear hr hd ho hq hk
  go_enter Tryz.func96, Tryz.ntmps96
  go_wp2_with (go_at_call 97; refine (letsGo_out x _ _ _ _ _ pods _ k _ (rdRules.to HR.out (by repeat (first | exact Below.refl _ _ | assumption | apply Ext.alloc | apply Ext.drewN | apply Ext.drew | refine Ext.trans ?_ (by assumption)))) (rdPods.to HD.out (by repeat (first | exact Below.refl _ _ | assumption | apply Ext.alloc | apply Ext.drewN | apply Ext.drew | refine Ext.trans ?_ (by assumption)))) HO.out HQ.out HK.out).mono ?_; rintro e w1 ⟨rfl, hb1⟩; obtain ⟨hc1, hf1⟩ := bcell hb1; have hz1 := hb_lt hb1)
  go_ret
  exact ⟨rfl, (by repeat (first | exact Below.refl _ _ | assumption | apply Ext.alloc | apply Ext.drewN | apply Ext.drew | refine Ext.trans ?_ (by assumption)))⟩
set_option maxHeartbeats 4000000 in
theorem mayGo_out (c : DClu) (k : DPkt) (pa qa : Option Addr) (pc qc : Nat) (w : World) (hp : rdPods w.heap.size w pa c.pods) (hq : rdPols w.heap.size w qa c.pols) (hc : cluOk c) (hk : pktOk k = true) :
    Calls Tryz.prog 57 #[.agg #[.slice pa c.pods.length pc, .slice qa c.pols.length qc], .int .i64 1, .agg #[.int .i64 k.src, .int .i64 k.dst, .int .i64 k.proto, .int .i64 k.port]] w fun e w' => e = .returned (.bool (may c 1 k k.src k.dst)) ∧ Below w.heap.size w w' := by
  have HP := hid hp
  have HQ := hid hq
  have HC := hid hc
  have HK := hid hk
  have hl2 := hq.1
  have hmf := mkFunc
  clear hp hq hc hk
  cases hpa : podAt c.pods k.src with
  | none =>
    have HA := hid hpa
    have HF := hid (may_none (way := 1) (k := k) (far := k.dst) hpa)
    clear hpa
    go_enter Tryz.func57, Tryz.ntmps57
    go_wp2_with (first
      | (go_at_call 92; refine (ends_out k _).mono ?_; rintro e w1 ⟨rfl, hb1⟩; obtain ⟨hc1, hf1⟩ := bcell hb1; have hz1 := hb_lt hb1)
      | (go_at_call 93; refine (at_any _ _ c.pods _ _ (rdPods.to HP.out (by repeat (first | exact Below.refl _ _ | assumption | apply Ext.alloc | apply Ext.drewN | apply Ext.drew | refine Ext.trans ?_ (by assumption))))).mono ?_; rw [HA.out, atV]; rintro e w2 ⟨rfl, hb2⟩; obtain ⟨hc2, hf2⟩ := bcell hb2; have hz2 := hb_lt hb2))
    go_ret
    exact ⟨ret_bool (by rw [HF.out]), (by repeat (first | exact Below.refl _ _ | assumption | apply Ext.alloc | apply Ext.drewN | apply Ext.drew | refine Ext.trans ?_ (by assumption)))⟩
  | some p =>
    have HA := hid hpa
    have HPP := hid (HC.out.1.1 p (List.mem_of_find?_eq_some hpa))
    have HF := hid (may_held (way := 1) (k := k) (far := k.dst) hpa)
    clear hpa
    go_enter Tryz.func57, Tryz.ntmps57
    go_wp2_with (first
      | (go_at_call 92; refine (ends_out k _).mono ?_; rintro e w1 ⟨rfl, hb1⟩; obtain ⟨hc1, hf1⟩ := bcell hb1; have hz1 := hb_lt hb1; have ec0 : w1.cell? ⟨w.heap.size, 0, none⟩ = some (.slice pa c.pods.length pc) := cell_to (by simp [go_sem]) hb1; have ec1 : w1.cell? ⟨w.heap.size, 1, none⟩ = some (.slice qa c.pols.length qc) := cell_to (by simp [go_sem]) hb1; have ew : w1.cell? ⟨w.heap.size + 1, 0, none⟩ = some (.int .i64 1) := cell_to (by simp [go_sem]) hb1; have ek0 : w1.cell? ⟨w.heap.size + 1 + 1, 0, none⟩ = some (.int .i64 k.src) := cell_to (by simp [go_sem]) hb1; have ek1 : w1.cell? ⟨w.heap.size + 1 + 1, 1, none⟩ = some (.int .i64 k.dst) := cell_to (by simp [go_sem]) hb1; have ek2 : w1.cell? ⟨w.heap.size + 1 + 1, 2, none⟩ = some (.int .i64 k.proto) := cell_to (by simp [go_sem]) hb1; have ek3 : w1.cell? ⟨w.heap.size + 1 + 1, 3, none⟩ = some (.int .i64 k.port) := cell_to (by simp [go_sem]) hb1)
      | (go_at_call 93; refine (at_any _ _ c.pods _ _ (rdPods.to HP.out (by repeat (first | exact Below.refl _ _ | assumption | apply Ext.alloc | apply Ext.drewN | apply Ext.drew | refine Ext.trans ?_ (by assumption))))).mono ?_; rw [HA.out, atV]; rintro e w2 ⟨rfl, hb2⟩; obtain ⟨hc2, hf2⟩ := bcell hb2; have hz2 := hb_lt hb2; have fc0 := cell_to ec0 hb2; have fc1 := cell_to ec1 hb2; have fw := cell_to ew hb2; have fk0 := cell_to ek0 hb2; have fk1 := cell_to ek1 hb2; have fk2 := cell_to ek2 hb2; have fk3 := cell_to ek3 hb2; have ed0 : ∀ o, (w2.alloc o).cell? ⟨w.heap.size, 0, none⟩ = some (.slice pa c.pods.length pc) := fun o => cell_past fc0; have ed1 : ∀ o, (w2.alloc o).cell? ⟨w.heap.size, 1, none⟩ = some (.slice qa c.pols.length qc) := fun o => cell_past fc1; have edw : ∀ o, (w2.alloc o).cell? ⟨w.heap.size + 1, 0, none⟩ = some (.int .i64 1) := fun o => cell_past fw)
      | (go_at_call 94; refine (applying_out p c.pols _ _ _ (rdPols.to HQ.out (by repeat (first | exact Below.refl _ _ | assumption | apply Ext.alloc | apply Ext.drewN | apply Ext.drew | refine Ext.trans ?_ (by assumption)))) HC.out.2 HPP.out).mono ?_; rintro e w3 ⟨⟨a', c', rfl, hr3⟩, hb3⟩; have HR3 := hid hr3; clear hr3; have hz3 := hb_lt hb3)
      | (go_at_call 95; go_must (refine (eoaPol (letsGo c.pods 1 k k.dst) _ _ _ _ _ _ _ HR3.out (fun x oa ia oc ic w4 hx hb4 hro hri => mayClo_out x oa ia oc ic pa c.pods pc k _ _ _ w4 hro (rdPods.to (rdPods.to HP.out (by repeat (first | exact Below.refl _ _ | assumption | apply Ext.alloc | apply Ext.drewN | apply Ext.drew | refine Ext.trans ?_ (by assumption)))) hb4) HC.out.1 (HC.out.2 x (List.mem_filter.1 hx).1) HK.out (cell_to (cell_to (cell_past fw) hb3) hb4) (cell_to (cell_to (cell_past fc0) hb3) hb4) (cell_to (cell_to (cell_past fk0) hb3) hb4) (cell_to (cell_to (cell_past fk1) hb3) hb4) (cell_to (cell_to (cell_past fk2) hb3) hb4) (cell_to (cell_to (cell_past fk3) hb3) hb4))).mono ?_); rintro e w4 ⟨rfl, hb4⟩; obtain ⟨hc4, hf4⟩ := bcell hb4; have hz4 := hb_lt hb4))
    go_ret
    exact ⟨ret_bool (by rw [HF.out]), (by repeat (first | exact Below.refl _ _ | assumption | apply Ext.alloc | apply Ext.drewN | apply Ext.drew | refine Ext.trans ?_ (by assumption)))⟩
end Go.Proofs.YtmkjlhplgcifiaaGreat
namespace Go.Proofs.YtmkjlhplgcifiaaGreat
open Go.ChangeShapes Go.WideShapes Go.ChangeAt Go.RowKit
attribute [local simp] World.cell?_grow
attribute [local go_sem] World.cell?_grow
attribute [local simp] World.cell?_alloc_there
attribute [local go_sem] World.cell?_alloc_there
attribute [local go_sem] eqg_blk std_blk eqg_pod std_pod eqg_sel std_sel eqg_prt std_prt
attribute [local go_sem ↓] eql_blk eql_sel neq_sel eql_prt eql_pod
attribute [local go_sem ↓] met_in1 met_in2 met_re1 met_re2
attribute [local go_sem ↓] met_has1 met_has2
set_option linter.unusedVariables false
set_option linter.unusedSimpArgs false
def ixOf (l : List DPod) (ip : Int) : Int := match l.findIdx? (fun p => decide (p.ip = ip)) with | some k => k | none => -1
theorem ix_at {l : List DPod} {k : Nat} {x : DPod} {ip : Int} (h : l[k]? = some x) (hb : ∀ j y, j < k → l[j]? = some y → ¬ y.ip = ip) (hx : x.ip = ip) : ixOf l ip = k := by
  obtain ⟨hk, he⟩ := List.getElem?_eq_some_iff.1 h
  have : l.findIdx? (fun p => decide (p.ip = ip)) = some k := by
    rw [List.findIdx?_eq_some_iff_getElem]
    refine ⟨hk, by simp [he, hx], fun j hj => ?_⟩
    have := hb j l[j] hj (by simp)
    simp [this]
  rw [ixOf, this]
theorem ix_none {l : List DPod} {ip : Int} (hb : ∀ j y, j < l.length → l[j]? = some y → ¬ y.ip = ip) : ixOf l ip = -1 := by
  have : l.findIdx? (fun p => decide (p.ip = ip)) = none := by
    rw [List.findIdx?_eq_none_iff]
    intro x hx
    obtain ⟨j, hj, he⟩ := List.getElem_of_mem hx
    have := hb j x hj (by rw [List.getElem?_eq_getElem hj, he])
    simp [this]
  rw [ixOf, this]
theorem podAt_ix {l : List DPod} {ip : Int} {p : DPod} (h : podAt l ip = some p) : ∃ k : Nat, l[k]? = some p ∧ ixOf l ip = k := by
  unfold podAt at h
  rw [List.find?_eq_some_iff_getElem] at h
  obtain ⟨hp, k, hk, he, hb⟩ := h
  have hk2 : l[k]? = some p := by rw [List.getElem?_eq_getElem hk, he]
  refine ⟨k, hk2, ix_at hk2 (fun j y hj hy => ?_) (by simpa using hp)⟩
  have := hb j hj
  obtain ⟨h1, h2⟩ := List.getElem?_eq_some_iff.1 hy
  rw [h2] at this
  simpa using this
theorem podAt_ixn {l : List DPod} {ip : Int} (h : podAt l ip = none) : ixOf l ip = -1 := by
  refine ix_none (fun j y hj hy he => ?_)
  unfold podAt at h
  rw [List.find?_eq_none] at h
  have := h y (List.mem_of_getElem? hy)
  simp [he] at this
set_option maxHeartbeats 2000000 in
theorem refAt_any (l : List DPod) (ip : Int) (pa qa : Option Addr) (pc qn qc : Nat) (w : World) (hp : rdPods w.heap.size w pa l) :
    Calls Tryz.prog 110 #[.agg #[.slice pa l.length pc, .slice qa qn qc], .int .i64 ip] w fun e w' => e = .returned (.int .i64 (ixOf l ip)) ∧ Below w.heap.size w w' := by
  have HP := hid hp
  have hlen := hp.1
  clear hp
  go_enter Tryz.func110, Tryz.ntmps110
  go_wp2
  go_loop [5] (fun i => ∃ k : Nat, k ≤ l.length ∧ i = .int .i64 k ∧ ∀ j y, j < k → l[j]? = some y → ¬ y.ip = ip) (fun i => l.length - (intOf i).toNat)
  case atStart => exact ⟨0, Nat.zero_le _, rfl, fun j y hj => absurd hj (Nat.not_lt_zero _)⟩
  case round =>
    obtain ⟨k, hk, rfl, hall⟩ := hrel
    have HA := hid hall
    clear hall
    by_cases hlt : k < l.length
    · obtain ⟨x, hxk⟩ : ∃ x, l[k]? = some x := ⟨l[k], by simp [hlt]⟩
      have HX := hid hxk
      clear hxk
      obtain ⟨b, off, rfl, hb, c0, c1, c2, c3⟩ := HP.out.2 k x HX.out
      cases hx : (x.ip == ip)
      · go_wp2
        go_round
        case rel =>
          refine ⟨k + 1, by omega, by go_num, fun j y hj hy => ?_⟩
          rcases Nat.lt_succ_iff_lt_or_eq.1 hj with h | h
          · exact HA.out j y h hy
          · subst h
            rw [HX.out] at hy
            cases hy
            simpa using hx
        case measure => simp [intOf]; omega
      · have HF := hid (ix_at HX.out HA.out (by simpa using hx))
        go_wp2
        go_ret
        exact ⟨by rw [HF.out]; rfl, (by repeat (first | exact Below.refl _ _ | assumption | apply Ext.alloc | apply Ext.drewN | apply Ext.drew | refine Ext.trans ?_ (by assumption)))⟩
    · have HF := hid (ix_none (l := l) (ip := ip) (fun j y hj => HA.out j y (by omega)))
      go_wp2
      go_ret
      exact ⟨by rw [HF.out]; rfl, (by repeat (first | exact Below.refl _ _ | assumption | apply Ext.alloc | apply Ext.drewN | apply Ext.drew | refine Ext.trans ?_ (by assumption)))⟩
set_option maxRecDepth 100000 in
set_option maxHeartbeats 4000000 in
theorem refHasBlocks (x : DPeer) (ea : Option Addr) (ec : Nat) (ip space : Int) (pa qa : Option Addr) (pn pc qn qc : Nat) (w : World) (hr : rdBlks w.heap.size w ea x.exc)
    (hk : x.kind = 2) (hx : blkOk ⟨x.base, x.bits⟩ = true) (he : x.exc.all blkOk = true) (h0 : 0 ≤ ip) (h1 : ip ≤ 4294967295) :
    Calls Tryz.prog 167 #[.agg #[.slice pa pn pc, .slice qa qn qc], .int .i64 space, .agg #[.int .i64 x.kind, .int .i64 x.need, .int .i64 x.ban, .int .i64 x.spaces, .int .i64 x.base, .int .i64 x.bits, .slice ea x.exc.length ec], .int .i64 ip] w
      fun e w' => e = .returned (.bool (blkHas ip ⟨x.base, x.bits⟩ && !(x.exc.any (blkHas ip)))) ∧ Below w.heap.size w w' := by
  have HR := hid hr
  have HX := hid hx
  have HE := hid he
  have hlen := hr.1
  have hk2 : (x.kind == 2) = true := by simp [hk]
  clear hr hx he hk
  go_enter Tryz.func167, Tryz.ntmps167
  go_wp2_with (go_at_call 144; refine (refHas_any ⟨x.base, x.bits⟩ ip _ HX.out h0 h1).mono ?_; rintro e w1 ⟨rfl, hb1⟩; obtain ⟨hc1, hf1⟩ := bcell hb1; have hz1 := hb_lt hb1)
  have y6 : w1.cell? ⟨w.heap.size + 1, 6, none⟩ = some (.slice ea x.exc.length ec) := cell_to (by simp [go_sem]) hb1
  have hB : Below w.heap.size w w1 := (by repeat (first | exact Below.refl _ _ | assumption | apply Ext.alloc | apply Ext.drewN | apply Ext.drew | refine Ext.trans ?_ (by assumption)))
  clear hc1 hf1 hz1
  go_loopw [9, 10] (fun inn i wr => ∃ t : Nat, t ≤ x.exc.length ∧ i = .int .i64 t ∧ inn = .bool (blkHas ip ⟨x.base, x.bits⟩ && !((x.exc.take t).any (blkHas ip))) ∧ Below w1.heap.size w1 wr) (fun _ i _ => x.exc.length - (intOf i).toNat)
  case atStart => exact ⟨0, Nat.zero_le _, rfl, by simp, Below.refl _ _⟩
  case round =>
    obtain ⟨t, ht, rfl, rfl, hbw⟩ := hrel
    have z6 := cell_to y6 hbw
    have hC : Below w.heap.size w wr := Ext.trans hB hbw
    by_cases hlt : t < x.exc.length
    · obtain ⟨y, hyk⟩ : ∃ y, x.exc[t]? = some y := ⟨x.exc[t], by simp [hlt]⟩
      have HY := hid hyk
      have HT := hid (take_any' (f := blkHas ip) hyk)
      have HO := hid (List.all_eq_true.1 HE.out y (List.mem_of_getElem? hyk))
      clear hyk
      obtain ⟨b, off, rfl, hb, c0, c1⟩ := HR.out.2 t y HY.out
      have d0 := cell_to c0 hC
      have d1 := cell_to c1 hC
      clear c0 c1
      generalize hg : (blkHas ip ⟨x.base, x.bits⟩ && !((x.exc.take t).any (blkHas ip))) = g
      have HH := hid (show (blkHas ip ⟨x.base, x.bits⟩ && !((x.exc.take (t + 1)).any (blkHas ip))) = (g && !(blkHas ip y)) by rw [HT.out, Bool.not_or, ← Bool.and_assoc, hg])
      clear hg
      cases g
      · go_wp2_with (go_at_call 144; refine (refHas_any y ip _ HO.out h0 h1).mono ?_; rintro e w2 ⟨rfl, hb2⟩; obtain ⟨hc2, hf2⟩ := bcell hb2; have hz2 := hb_lt hb2)
        exact ⟨⟨t + 1, by omega, by go_num, by rw [HH.out]; rfl, Ext.trans hbw hb2⟩, by simp [intOf]; omega⟩
      · go_wp2_with (go_at_call 144; refine (refHas_any y ip _ HO.out h0 h1).mono ?_; rintro e w2 ⟨rfl, hb2⟩; obtain ⟨hc2, hf2⟩ := bcell hb2; have hz2 := hb_lt hb2)
        exact ⟨⟨t + 1, by omega, by go_num, by rw [HH.out]; simp, Ext.trans hbw hb2⟩, by simp [intOf]; omega⟩
    · have e : x.exc.take t = x.exc := List.take_of_length_le (by omega)
      rw [e]
      clear e
      go_wp2
      go_ret
      exact ⟨rfl, hC⟩
end Go.Proofs.YtmkjlhplgcifiaaGreat
namespace Go.Proofs.YtmkjlhplgcifiaaGreat
open Go.ChangeShapes Go.WideShapes Go.ChangeAt Go.RowKit
attribute [local simp] World.cell?_grow
attribute [local go_sem] World.cell?_grow
attribute [local simp] World.cell?_alloc_there
attribute [local go_sem] World.cell?_alloc_there
attribute [local go_sem] eqg_blk std_blk eqg_pod std_pod eqg_sel std_sel eqg_prt std_prt
attribute [local go_sem ↓] eql_blk eql_sel neq_sel eql_prt eql_pod
attribute [local go_sem ↓] met_in1 met_in2 met_re1 met_re2
attribute [local go_sem ↓] met_has1 met_has2
set_option linter.unusedVariables false
set_option linter.unusedSimpArgs false
/-- a number of 64 bits -/
def i64 (n : Int) : Prop := -9223372036854775808 ≤ n ∧ n ≤ 9223372036854775807
/-- which of n things the raw number c speaks of -/
def pk (c n : Int) : Int := (if c < 0 then -(c + 1) else c) % n
theorem pk_in {c n : Int} (hn : 0 < n) : 0 ≤ pk c n ∧ pk c n < n := ⟨Int.emod_nonneg _ (by omega), Int.emod_lt_of_pos _ hn⟩
end Go.Proofs.YtmkjlhplgcifiaaGreat
namespace Go.Proofs.YtmkjlhplgcifiaaGreat
open Go.ChangeShapes Go.WideShapes Go.ChangeAt Go.RowKit
set_option linter.unusedVariables false
set_option linter.unusedSimpArgs false
theorem run_append_none {P : Program} (w : World) (t ty e : TypeId) (i : TypeInfo) (ht : P.underlying t = some (.slice e)) (hi : P.info? e = some i) (s : Option Addr) (n cap c : Nat) (hc : n ≤ cap) :
    (Builtin.append_ #[t, t] ty #[.slice s n cap, .slice none 0 c]).run P w = .ok (.slice s n cap) w := by
  cases s with
  | none => simp [Builtin.append_, run_underlying ht, sizeOf, typeInfo, hi, Builtin.lenOf, hc, run_firstCells_none]
  | some a => simp [Builtin.append_, run_underlying ht, sizeOf, typeInfo, hi, Builtin.lenOf, hc, run_firstCells_none, storeCells]
theorem run_append_list {P : Program} (w : World) (base : Nat) (t ty e : TypeId) (i : TypeInfo) (z : Value) (size bytes : Nat) (ht : P.underlying t = some (.slice e)) (hi : P.info? e = some i) (hz : i.zero = some z)
    (hsize : i.size = size) (hby : i.bytes = bytes) (hzs : z.cells.size = size) (hsz : 0 < size) (v : Value) (n : Nat) (xs : List Value) (hown : w.ownsRow base e size v n xs)
    (s : Option Addr) (m c : Nat) (news : List Value) (hl : news.length = m * size) (hnews : ∀ j u, news[j]? = some u → ∃ b o, s = some ⟨b, o, none⟩ ∧ w.cell? ⟨b, o + j, none⟩ = some u) (h1 : ∀ u ∈ news, u.oneCell' = true)
    (h63 : n + m ≤ maxLen) (hbytes : (n + m) * bytes ≤ 140737488355328) (hbase : base ≤ w.heap.size) :
    ∃ v' w', (Builtin.append_ #[t, t] ty #[v, .slice s m c]).run P w = .ok v' w' ∧ w'.ownsRow base e size v' (n + m) (xs ++ news) ∧ w.grownBy w' v.ownBlock := by
  cases s with
  | none =>
    have hn : news = [] := by
      cases news with
      | nil => rfl
      | cons u l => obtain ⟨b, o, h, _⟩ := hnews 0 u rfl; cases h
    subst hn
    have hm : m = 0 := by
      have : m * size = 0 := by simpa using hl.symm
      rcases Nat.mul_eq_zero.1 this with h | h <;> omega
    subst hm
    obtain ⟨a, cap, rfl, hc, _⟩ := own_slice hown
    exact ⟨_, w, run_append_none w t ty e i ht hi a n cap c hc, by simpa using hown, ⟨rfl, rfl, rfl, Nat.le_refl _, fun _ _ _ => rfl⟩⟩
  | some ad =>
    by_cases h0 : news = []
    · subst h0
      have hm : m = 0 := by
        have : m * size = 0 := by simpa using hl.symm
        rcases Nat.mul_eq_zero.1 this with h | h <;> omega
      subst hm
      obtain ⟨v', w', h2, h3, h4, _⟩ := run_append_own w base t ty e i z size bytes ht hi hz hsize hby hzs hsz v n xs hown ad 0 c [] (by simp) (fun j u h => by simp at h) (fun u h => by simp at h) h63 hbytes hbase
      exact ⟨v', w', h2, h3, h4⟩
    · have hads : ∃ b o, ad = ⟨b, o, none⟩ := by
        cases news with
        | nil => exact absurd rfl h0
        | cons u l => obtain ⟨b, o, h, _⟩ := hnews 0 u rfl; exact ⟨b, o, by cases h; rfl⟩
      obtain ⟨b, o, rfl⟩ := hads
      obtain ⟨v', w', h2, h3, h4, _⟩ := run_append_own w base t ty e i z size bytes ht hi hz hsize hby hzs hsz v n xs hown ⟨b, o, none⟩ m c news hl (fun j u h => by
        obtain ⟨b', o', e', hcell⟩ := hnews j u h
        cases e'
        rw [show ((⟨b, o, none⟩ : Addr).add j) = ⟨b, o + j, none⟩ by unfold Addr.add; split <;> simp_all]
        exact hcell) h1 h63 hbytes hbase
      exact ⟨v', w', h2, h3, h4⟩
theorem wp_append_list {P : Program} (w : World) {o : Oper} {a : Act} {K : Act → World → Prop} {Q : Exit → Act → World → Prop} (s x : Operand) (t : TypeId)
    (ho : o.op = .call { callee := .builtin .append, args := #[s, x], argTypes := #[t, t] }) (base : Nat) (e : TypeId) (i : TypeInfo) (z : Value) (size bytes : Nat) (ht : P.underlying t = some (.slice e)) (hi : P.info? e = some i) (hz : i.zero = some z)
    (hsize : i.size = size) (hby : i.bytes = bytes) (hzs : z.cells.size = size) (hsz : 0 < size) (v : Value) (n : Nat) (xs : List Value) (hs : a.eval s = v) (hown : w.ownsRow base e size v n xs)
    (sl : Option Addr) (m c : Nat) (news : List Value) (hx : a.eval x = .slice sl m c) (hl : news.length = m * size) (hnews : ∀ j u, news[j]? = some u → ∃ b o, sl = some ⟨b, o, none⟩ ∧ w.cell? ⟨b, o + j, none⟩ = some u) (h1 : ∀ u ∈ news, u.oneCell' = true)
    (h63 : n + m ≤ maxLen) (hbytes : (n + m) * bytes ≤ 140737488355328) (hbase : base ≤ w.heap.size)
    (h : ∀ v' w', w'.ownsRow base e size v' (n + m) (xs ++ news) → w.grownBy w' v.ownBlock → K (a.put o.dst v') w') : o.wp P a w K Q := by
  obtain ⟨v', w', h2, h3, h4⟩ := run_append_list (P := P) w base t o.type e i z size bytes ht hi hz hsize hby hzs hsz v n xs hown sl m c news hl hnews h1 h63 hbytes hbase
  unfold Oper.wp execOp
  simp only [ho, resolve, invoke, builtin, Sem.run_bind, Sem.run_pure, Result.andThen_ok, List.map_toArray, List.map_cons, List.map_nil, hs, hx, h2]
  exact h v' w' h3 h4
theorem wpList_append_list {P : Program} (w : World) {ops : Array Oper} {rest : List Oper} {o : Oper} {a : Act} {Q : Exit → Act → World → Prop} (hgd : o.guard = none) (s x : Operand) (t : TypeId)
    (ho : o.op = .call { callee := .builtin .append, args := #[s, x], argTypes := #[t, t] }) (base : Nat) (e : TypeId) (i : TypeInfo) (z : Value) (size bytes : Nat) (ht : P.underlying t = some (.slice e)) (hi : P.info? e = some i) (hz : i.zero = some z)
    (hsize : i.size = size) (hby : i.bytes = bytes) (hzs : z.cells.size = size) (hsz : 0 < size) (v : Value) (n : Nat) (xs : List Value) (hs : a.eval s = v) (hown : w.ownsRow base e size v n xs)
    (sl : Option Addr) (m c : Nat) (news : List Value) (hx : a.eval x = .slice sl m c) (hl : news.length = m * size) (hnews : ∀ j u, news[j]? = some u → ∃ b o, sl = some ⟨b, o, none⟩ ∧ w.cell? ⟨b, o + j, none⟩ = some u) (h1 : ∀ u ∈ news, u.oneCell' = true)
    (h63 : n + m ≤ maxLen) (hbytes : (n + m) * bytes ≤ 140737488355328) (hbase : base ≤ w.heap.size)
    (h : ∀ v' w', w'.ownsRow base e size v' (n + m) (xs ++ news) → w.grownBy w' v.ownBlock → wpList P ops Q rest (a.put o.dst v') w') : wpList P ops Q (o :: rest) a w :=
  wpList_plain hgd fun _ hK => wp_append_list w s x t ho base e i z size bytes ht hi hz hsize hby hzs hsz v n xs hs hown sl m c news hx hl hnews h1 h63 hbytes hbase fun v' w' h2 h3 => hK _ _ (h v' w' h2 h3)
theorem step_append_list {P : Program} (w : World) {ops : Array Oper} {o : Oper} {a : Act} {K : Act → World → Prop} {Q : Exit → Act → World → Prop} {E : Prop} (hgd : o.guard = none) (s x : Operand) (t : TypeId)
    (ho : o.op = .call { callee := .builtin .append, args := #[s, x], argTypes := #[t, t] }) (base : Nat) (e : TypeId) (i : TypeInfo) (z : Value) (size bytes : Nat) (ht : P.underlying t = some (.slice e)) (hi : P.info? e = some i) (hz : i.zero = some z)
    (hsize : i.size = size) (hby : i.bytes = bytes) (hzs : z.cells.size = size) (hsz : 0 < size) (v : Value) (n : Nat) (xs : List Value) (hs : a.eval s = v) (hown : w.ownsRow base e size v n xs)
    (sl : Option Addr) (m c : Nat) (news : List Value) (hx : a.eval x = .slice sl m c) (hl : news.length = m * size) (hnews : ∀ j u, news[j]? = some u → ∃ b o, sl = some ⟨b, o, none⟩ ∧ w.cell? ⟨b, o + j, none⟩ = some u) (h1 : ∀ u ∈ news, u.oneCell' = true)
    (h63 : n + m ≤ maxLen) (hbytes : (n + m) * bytes ≤ 140737488355328) (hbase : base ≤ w.heap.size)
    (h : ∀ v' w', w'.ownsRow base e size v' (n + m) (xs ++ news) → w.grownBy w' v.ownBlock → K (a.put o.dst v') w') :
    if Region.wanted o (yielded ops a.tmps) = true then Oper.wp P o a w K Q else E := by
  have hw : Region.wanted o (yielded ops a.tmps) = true := by simp [Region.wanted, hgd]
  rw [if_pos hw]
  exact wp_append_list w s x t ho base e i z size bytes ht hi hz hsize hby hzs hsz v n xs hs hown sl m c news hx hl hnews h1 h63 hbytes hbase h
/-- a list of one, made by a literal -/
theorem own_built (W : World) (cs : List Value) (base : Nat) (e : TypeId) (size n : Nat) (hb : base ≤ W.heap.size) (hl : cs.length = n * size) (hn : n ≤ maxLen) : (W.alloc (.cells cs.toArray e)).ownsRow base e size (.slice (some ⟨W.heap.size, 0, none⟩) n n) n cs :=
  ⟨hl, .inr ⟨W.heap.size, n, cs.toArray, rfl, hb, (by show (W.heap.push _)[W.heap.size]? = _; simp), Nat.le_refl _, hn, by simpa using hl, by simp [← hl]⟩⟩
/-- how a list reads, as the cells that are appended -/
theorem news_of {α : Type} {w : World} {B k bytes : Nat} {E : Nat → World → Nat → Nat → α → Prop} {enc : α → List Value} {a : Option Addr} {l : List α} (hk : ∀ x, (enc x).length = k) (hp : 0 < k) (h : RdSl B w k bytes E a l)
    (hE : ∀ b o x, E B w b o x → ∀ j u, (enc x)[j]? = some u → w.cell? ⟨b, o + j, none⟩ = some u) : ∀ j u, (l.flatMap enc)[j]? = some u → ∃ b o, a = some ⟨b, o, none⟩ ∧ w.cell? ⟨b, o + j, none⟩ = some u := by
  intro j u hj
  have hjl : j < l.length * k := by rw [← oflat_len hk l]; exact (List.getElem?_eq_some_iff.1 hj).1
  have hi : j / k < l.length := (Nat.div_lt_iff_lt_mul hp).2 hjl
  obtain ⟨x, hx⟩ : ∃ x, l[j / k]? = some x := ⟨l[j / k], List.getElem?_eq_getElem hi⟩
  have hm : j % k < k := Nat.mod_lt _ hp
  have h1 := oflat_get hk l (j / k) x (j % k) hx hm
  rw [Nat.div_add_mod' j k, hj] at h1
  obtain ⟨b, off, e, _, he⟩ := h.2 (j / k) x hx
  refine ⟨b, off, e, ?_⟩
  have := hE _ _ _ he (j % k) u h1.symm
  rwa [Nat.add_assoc, Nat.div_add_mod' j k] at this
theorem eBlk_cells {B : Nat} {w : World} {b o : Nat} {x : DBlk} (h : eBlk B w b o x) : ∀ j u, (encBlk x)[j]? = some u → w.cell? ⟨b, o + j, none⟩ = some u
  | 0, u, hj => by simp [encBlk] at hj; subst hj; exact h.1
  | 1, u, hj => by simp [encBlk] at hj; subst hj; exact h.2
  | j + 2, u, hj => by simp [encBlk] at hj
end Go.Proofs.YtmkjlhplgcifiaaGreat
namespace Go.Proofs.YtmkjlhplgcifiaaGreat
open Go.ChangeShapes Go.WideShapes Go.ChangeAt Go.RowKit
set_option linter.unusedVariables false
set_option linter.unusedSimpArgs false
/-- from W0 on nothing has turned but the row of v0, and v is that row or a newer one -/
structure Inv (W0 : World) (v0 : Value) (W : World) (v : Value) : Prop where
  gr : W0.grownBy W v0.ownBlock
  lie : ∀ g, v.ownBlock = some g → v0.ownBlock = some g ∨ W0.heap.size ≤ g
theorem Inv.refl (W : World) (v : Value) : Inv W v W v := ⟨⟨rfl, rfl, rfl, Nat.le_refl _, fun _ _ _ => rfl⟩, fun _ h => .inl h⟩
theorem Inv.ext {W0 W W' : World} {v0 v : Value} (h : Inv W0 v0 W v) (hb : Below W.heap.size W W') : Inv W0 v0 W' v :=
  ⟨⟨hb.os.trans h.gr.os, hb.tape.trans h.gr.tape, hb.output.trans h.gr.output, Nat.le_trans h.gr.size hb.size, fun k hk hne => (hb.block k (Nat.lt_of_lt_of_le hk h.gr.size)).trans (h.gr.block k hk hne)⟩, h.lie⟩
theorem Inv.trans {W0 W1 W2 : World} {v0 v1 v2 : Value} (h : Inv W0 v0 W1 v1) (k : Inv W1 v1 W2 v2) : Inv W0 v0 W2 v2 := by
  refine ⟨⟨k.gr.os.trans h.gr.os, k.gr.tape.trans h.gr.tape, k.gr.output.trans h.gr.output, Nat.le_trans h.gr.size k.gr.size, fun b hb hne => ?_⟩, fun g hg => ?_⟩
  · refine (k.gr.block b (Nat.lt_of_lt_of_le hb h.gr.size) (fun e => ?_)).trans (h.gr.block b hb hne)
    rcases h.lie b e.symm with e' | e'
    · exact hne e'.symm
    · omega
  · rcases k.lie g hg with e | e
    · exact h.lie g e
    · exact .inr (Nat.le_trans h.gr.size e)
theorem Inv.app {W w3 : World} {v v' : Value} (hg : W.grownBy w3 v.ownBlock) (ha : v'.ownBlock = v.ownBlock ∨ v'.ownBlock = some W.heap.size) : Inv W v w3 v' :=
  ⟨hg, fun g h => by
    rcases ha with e | e
    · exact .inl (e ▸ h)
    · rw [e] at h; cases h; exact .inr (Nat.le_refl _)⟩
theorem Inv.cell {W0 W : World} {v0 v : Value} (h : Inv W0 v0 W v) {b o : Nat} {u : Value} (hne : v0.ownBlock ≠ some b) (hc : W0.cell? ⟨b, o, none⟩ = some u) : W.cell? ⟨b, o, none⟩ = some u := h.gr.cell hc (fun e => hne e.symm)
theorem Inv.low {W0 W Wb : World} {v0 v : Value} {B : Nat} {e : TypeId} {size n : Nat} {xs : List Value} (h : Inv W0 v0 W v) (ho : Wb.ownsRow B e size v0 n xs) (hB : B ≤ W0.heap.size) : Below B W0 W :=
  (Below.refl B W0).grown h.gr hB (fun k hk => (ho.lt k hk).1)
theorem own_ne {w : World} {B : Nat} {e : TypeId} {size : Nat} {v : Value} {n : Nat} {xs : List Value} (h : w.ownsRow B e size v n xs) {b : Nat} (hb : b < B ∨ w.heap.size ≤ b) : v.ownBlock ≠ some b := fun e => by
  have := h.lt b e; omega
end Go.Proofs.YtmkjlhplgcifiaaGreat
