/-
  The document's answer: P3.
-/
import Derived.Test.YtmkjlhplgcifiaaGreatH07
import Derived.Test.YtmkjlhplgcifiaaGreatH05
import Derived.Test.YtmkjlhplgcifiaaGreatH01
import Derived.Test.YtmkjlhplgcifiaaGreatH02
namespace Go.Proofs.YtmkjlhplgcifiaaGreat
open Go.ChangeShapes Go.WideShapes Go.ChangeAt Go.RowKit
set_option linter.unusedVariables false
set_option linter.unusedSimpArgs false
attribute [local simp] World.cell?_grow World.cell?_alloc_there
attribute [local go_sem] World.cell?_grow World.cell?_alloc_there eqg_blk std_blk eqg_pod std_pod eqg_sel std_sel eqg_prt std_prt
attribute [local go_sem ↓] eql_blk eql_sel neq_sel eql_prt eql_pod met_in1 met_in2 met_re1 met_re2 met_has1 met_has2
theorem podGood_all {l : List DPod} {k : Nat} {p : DPod} (h : l[k]? = some p) : podGood l k = (podOk p && (l.take k).all fun q => decide (q.ip ≠ p.ip)) := by rw [podGood, h]
theorem take_all' {α : Type} {l : List α} {f : α → Bool} {k : Nat} {x : α} (h : l[k]? = some x) : (l.take (k + 1)).all f = ((l.take k).all f && f x) := by
  rw [List.take_add_one, h, List.all_append]; simp
theorem ibne (a b : Int) : (a != b) = decide (a ≠ b) := by by_cases h : a = b <;> simp [h]
set_option maxRecDepth 100000 in
set_option maxHeartbeats 8000000 in
theorem refRight_any (c : DClu) (pa qa : Option Addr) (pc qc : Nat) (w : World) (hp : rdPods w.heap.size w pa c.pods) (hq : rdPols w.heap.size w qa c.pols) :
    Calls Tryz.prog 75 #[.agg #[.slice pa c.pods.length pc, .slice qa c.pols.length qc]] w fun e w' => e = .returned (.tuple #[.int .i64 (right c).1, .int .i64 (right c).2]) ∧ Below w.heap.size w w' := by
  have HP := hid hp
  have HQ := hid hq
  have hl1 := hp.1
  have hl2 := hq.1
  clear hp hq
  by_cases hn : 8 < c.pods.length
  · have HR := hid (right_many (c := c) (Or.inl hn))
    go_enter Tryz.func75, Tryz.ntmps75
    go_wp2
    go_ret2
    exact ⟨by rw [HR.out]; rfl, bel⟩
  by_cases hm : 4 < c.pols.length
  · have HR := hid (right_many (c := c) (Or.inr hm))
    go_enter Tryz.func75, Tryz.ntmps75
    go_wp2
    go_ret2
    exact ⟨by rw [HR.out]; rfl, bel⟩
  have HN := hid (show ¬ (8 < c.pods.length ∨ 4 < c.pols.length) by omega)
  go_enter Tryz.func75, Tryz.ntmps75
  go_wp2
  go_loopw [4] (fun i wr => ∃ k : Nat, k ≤ c.pods.length ∧ i = .int .i64 k ∧ (∀ j, j < k → podGood c.pods j = true) ∧ Below (w.alloc (Obj.cells #[.slice pa c.pods.length pc, .slice qa c.pols.length qc] 28)).heap.size (w.alloc (Obj.cells #[.slice pa c.pods.length pc, .slice qa c.pols.length qc] 28)) wr) (fun i _ => c.pods.length - (intOf i).toNat)
  case atStart => exact ⟨0, Nat.zero_le _, rfl, fun j hj => absurd hj (Nat.not_lt_zero _), Below.refl _ _⟩
  case round =>
    obtain ⟨k, hk, rfl, hall, hbw⟩ := hrel
    have HA := hid hall
    clear hall
    have HW := hid hbw
    have hB : Below w.heap.size w wr := (Below.refl _ _ |>.alloc (Nat.le_refl _) _).trans (hbw.mono (by simp))
    clear hbw
    have z0 : wr.cell? ⟨w.heap.size, 0, none⟩ = some (.slice pa c.pods.length pc) := cell_to (by simp [go_sem]) HW.out
    have z1 : wr.cell? ⟨w.heap.size, 1, none⟩ = some (.slice qa c.pols.length qc) := cell_to (by simp [go_sem]) HW.out
    by_cases hlt : k < c.pods.length
    · obtain ⟨x, hxk⟩ : ∃ x, c.pods[k]? = some x := ⟨c.pods[k], by simp [hlt]⟩
      have HX := hid hxk
      have HG := hid (podGood_all hxk)
      clear hxk
      obtain ⟨b, off, rfl, hb, c0, c1, c2, c3⟩ := HP.out.2 k x HX.out
      have d0 := cell_to c0 hB
      have d1 := cell_to c1 hB
      have d2 := cell_to c2 hB
      have d3 := cell_to c3 hB
      obtain ⟨wa, hwa⟩ : ∃ wa, wa = wr := ⟨_, rfl⟩
      subst hwa
      go_wp2_with (go_at_call 106; refine (refPod_any x _).mono ?_; rintro e w2 ⟨rfl, hb2⟩; obtain ⟨hc2, hf2⟩ := bcell hb2; have hz2 := hb_lt hb2)
      have y0 := cell_to z0 hb2
      have y1 := cell_to z1 hb2
      have D1 := hid (cell_to d1 hb2)
      have hB2 : Below w.heap.size w w2 := Ext.trans hB hb2
      have HW2 := hid (Ext.trans HW.out hb2)
      clear c0 c1 c2 c3 d0 d1 d2 d3 z0 z1 hc2 hf2 hz2
      go_loopw [5, 6] (fun ok i wr => ∃ t : Nat, t ≤ k ∧ i = .int .i64 t ∧ ok = .bool (podOk x && (c.pods.take t).all fun q => decide (q.ip ≠ x.ip)) ∧ Below w2.heap.size w2 wr) (fun _ i _ => k - (intOf i).toNat)
      case atStart => exact ⟨0, Nat.zero_le _, rfl, by simp, Below.refl _ _⟩
      case round =>
        obtain ⟨t, ht, rfl, rfl, hbv⟩ := hrel
        have hC : Below w.heap.size w wr := Ext.trans hB2 hbv
        have z0 := cell_to y0 hbv
        have z1 := cell_to y1 hbv
        by_cases hlt2 : t < k
        · obtain ⟨y, hyk⟩ : ∃ y, c.pods[t]? = some y := ⟨c.pods[t]'(by omega), by simp⟩
          have HY := hid hyk
          have HT := hid (take_all' (f := fun q => decide (q.ip ≠ x.ip)) hyk)
          clear hyk
          obtain ⟨b2, off2, he, hb2', c0, c1, c2, c3⟩ := HP.out.2 t y HY.out
          cases he
          have dy1 := cell_to c1 hC
          have dx1 := cell_to D1.out hbv
          clear c0 c1 c2 c3
          generalize hg : (podOk x && (c.pods.take t).all fun q => decide (q.ip ≠ x.ip)) = g
          have HH := hid (show (podOk x && (c.pods.take (t + 1)).all fun q => decide (q.ip ≠ x.ip)) = (g && (y.ip != x.ip)) by rw [HT.out, ← Bool.and_assoc, hg, ibne])
          clear hg
          cases g
          · go_wp2
            refine wp_region_grow (by kernel_rfl) (by kernel_rfl) ?_
            repeat (go_big_quiet_step (fail))
            refine wpQuiet_nil ?_
            intro w1 hb1
            obtain ⟨hc1, hf1⟩ := bcell hb1
            have hz1 := hb_lt hb1
            go_wp2
            exact ⟨⟨t + 1, by omega, by go_num, by rw [HH.out]; rfl, Ext.trans hbv hb1⟩, by simp [intOf]; omega⟩
          · go_wp2
            refine wp_region_grow (by kernel_rfl) (by kernel_rfl) ?_
            repeat (go_big_quiet_step (fail))
            refine wpQuiet_nil ?_
            intro w1 hb1
            obtain ⟨hc1, hf1⟩ := bcell hb1
            have hz1 := hb_lt hb1
            go_wp2
            exact ⟨⟨t + 1, by omega, by go_num, by rw [HH.out]; simp, Ext.trans hbv hb1⟩, by simp [intOf]; omega⟩
        · have e : t = k := by omega
          subst e
          cases hg : podGood c.pods t
          · have HF := hid (right_pod HN.out (firstBad_some HA.out hlt hg))
            have HH := hid (show (podOk x && (c.pods.take t).all fun q => decide (q.ip ≠ x.ip)) = false by rw [← HG.out, hg])
            rw [HH.out]
            clear hg
            go_wp2
            go_ret2
            exact ⟨by rw [HF.out]; rfl, hC⟩
          · have HH := hid (show (podOk x && (c.pods.take t).all fun q => decide (q.ip ≠ x.ip)) = true by rw [← HG.out, hg])
            have HI := hid hg
            rw [HH.out]
            clear hg
            go_wp2
            exact ⟨⟨t + 1, by omega, by go_num, fun j hj => by
              rcases Nat.lt_succ_iff_lt_or_eq.1 hj with h | h
              · exact HA.out j h
              · subst h; exact HI.out, Ext.trans HW2.out hbv⟩, by simp [intOf]; omega⟩
    · have HD := hid (firstBad_none (good := podGood c.pods) (n := c.pods.length) (fun j hj => HA.out j (by omega)))
      obtain ⟨wa, hwa⟩ : ∃ wa, wa = wr := ⟨_, rfl⟩
      subst hwa
      go_wp2
      go_loopw [7] (fun i wr => ∃ j : Nat, j ≤ c.pols.length ∧ i = .int .i64 j ∧ (∀ t, t < j → polGood c.pols t = true) ∧ Below wa.heap.size wa wr) (fun i _ => c.pols.length - (intOf i).toNat)
      case atStart => exact ⟨0, Nat.zero_le _, rfl, fun j hj => absurd hj (Nat.not_lt_zero _), Below.refl _ _⟩
      case round =>
        obtain ⟨j, hj, rfl, hall, hbw⟩ := hrel
        have HE := hid hall
        clear hall
        have hC : Below w.heap.size w wr := Ext.trans hB hbw
        have y1 := cell_to z1 hbw
        by_cases hlt2 : j < c.pols.length
        · obtain ⟨x, hxk⟩ : ∃ x, c.pols[j]? = some x := ⟨c.pols[j], by simp [hlt2]⟩
          have HX := hid hxk
          have HG := hid (polGood_some hxk)
          clear hxk
          obtain ⟨b, off, rfl, hb, c0, c1, c2, c3, ⟨oa, oc, c4, ho⟩, ia, ic, c5, hi⟩ := HQ.out.2 j x HX.out
          have d0 := cell_to c0 hC
          have d1 := cell_to c1 hC
          have d2 := cell_to c2 hC
          have d3 := cell_to c3 hC
          have d4 := cell_to c4 hC
          have d5 := cell_to c5 hC
          have HO := hid ho
          have HI := hid hi
          clear c0 c1 c2 c3 c4 c5 ho hi
          cases hq1 : polOk x
          · have HF := hid (right_pol HN.out HD.out (firstBad_some HE.out hlt2 (by rw [HG.out, hq1])))
            go_wp2_with (go_at_call 107; refine (refPolicy_any x _ _ _ _ _ (rdRules.to HO.out bel) (rdRules.to HI.out bel)).mono ?_; rintro e w1 ⟨rfl, hb1⟩; obtain ⟨hc1, hf1⟩ := bcell hb1; have hz1 := hb_lt hb1)
            go_ret2
            exact ⟨by rw [HF.out]; rfl, Ext.trans hC hb1⟩
          · go_wp2_with (go_at_call 107; refine (refPolicy_any x _ _ _ _ _ (rdRules.to HO.out bel) (rdRules.to HI.out bel)).mono ?_; rintro e w1 ⟨rfl, hb1⟩; obtain ⟨hc1, hf1⟩ := bcell hb1; have hz1 := hb_lt hb1)
            exact ⟨⟨j + 1, by omega, by go_num, fun t ht => by
              rcases Nat.lt_succ_iff_lt_or_eq.1 ht with h | h
              · exact HE.out t h
              · subst h; rw [HG.out, hq1], Ext.trans hbw hb1⟩, by simp [intOf]; omega⟩
        · have HF := hid (right_ok HN.out HD.out (firstBad_none (fun t ht => HE.out t (by omega))))
          go_wp2
          go_ret2
          exact ⟨by rw [HF.out]; rfl, hC⟩
def cluOk (c : DClu) : Prop := podsOk c.pods ∧ ∀ q ∈ c.pols, polOk q = true
theorem may_none {c : DClu} {way : Int} {k : DPkt} {near far : Int} (h : podAt c.pods near = none) : may c way k near far = true := by rw [may, h]
theorem may_held {c : DClu} {way : Int} {k : DPkt} {near far : Int} {p : DPod} (h : podAt c.pods near = some p) : may c way k near far = eoa (c.pols.filter (applies way p)) (letsGo c.pods way k far) := by
  rw [may, h]
  show (_ || _) = _
  unfold eoa
  rw [List.any_filter]
  congr 1
  induction c.pols with
  | nil => rfl
  | cons q t ih =>
    rw [List.all_cons, ih]
    cases ha : applies way p q
    · rw [List.filter_cons_of_neg (by simp [ha])]; simp
    · rw [List.filter_cons_of_pos ha]; simp
theorem may_true {c : DClu} {way : Int} {k : DPkt} {near far : Int} {p : DPod} {q : DPol} {j : Nat} (h : podAt c.pods near = some p) (hq : c.pols[j]? = some q) (ha : applies way p q = true) (hl : letsGo c.pods way k far q = true) : may c way k near far = true := by
  rw [may, h]
  show (_ || _) = true
  rw [any_true hq (f := fun q => applies way p q && letsGo c.pods way k far q) (by simp [ha, hl])]
  simp
theorem may_some {c : DClu} {way : Int} {k : DPkt} {near far : Int} {p : DPod} (h : podAt c.pods near = some p) (hl : (c.pols.any fun q => applies way p q && letsGo c.pods way k far q) = false) : may c way k near far = !(c.pols.any (applies way p)) := by
  rw [may, h]
  show (_ || _) = _
  rw [hl, Bool.or_false, List.not_any_eq_all_not]
theorem take_any' {α : Type} {l : List α} {f : α → Bool} {k : Nat} {x : α} (h : l[k]? = some x) : (l.take (k + 1)).any f = ((l.take k).any f || f x) := by
  rw [List.take_add_one, h, List.any_append]; simp
theorem anyPol (f : DPol → Bool) (k0 k1 k2 : Value) (a : Option Addr) (cap : Nat) (l : List DPol) (w : World) (hl : rdPols w.heap.size w a l)
    (hK : ∀ (x : DPol) (oa ia : Option Addr) (oc ic : Nat) (w1 : World), x ∈ l → Below w.heap.size w w1 → rdRules w1.heap.size w1 oa x.outs → rdRules w1.heap.size w1 ia x.ins → Calls Tryz.prog 96 #[.agg #[.int .i64 x.space, .int .i64 x.need, .int .i64 x.ban, .int .i64 x.ways, .slice oa x.outs.length oc, .slice ia x.ins.length ic], k0, k1, k2] w1 fun e w2 => e = .returned (.bool (f x)) ∧ Below w1.heap.size w1 w2) :
    Calls Tryz.prog 125 #[.slice a l.length cap, .func (.func 96) #[] #[k0, k1, k2]] w fun e w' => e = .returned (.bool (l.any f)) ∧ Below w.heap.size w w' := by
  have HK := hid hK
  obtain ⟨hlen, hl⟩ := hl
  have HL := hid hl
  clear hl hK
  go_enter Tryz.func125, Tryz.ntmps125
  go_wp2
  go_loopw [9] (fun i wr => ∃ k : Nat, k ≤ l.length ∧ i = .int .i64 k ∧ (l.take k).any f = false ∧ Below w.heap.size w wr) (fun i _ => l.length - (intOf i).toNat)
  case atStart => exact ⟨0, Nat.zero_le _, rfl, rfl, Below.refl _ _⟩
  case round =>
    obtain ⟨k, hk, rfl, hall, hbw⟩ := hrel
    have HA := hid hall
    clear hall
    by_cases hlt : k < l.length
    · obtain ⟨hc, hf⟩ := bcell hbw
      obtain ⟨x, hxk⟩ : ∃ x, l[k]? = some x := ⟨l[k], by simp [hlt]⟩
      have HX := hid hxk
      clear hxk
      obtain ⟨b, off, rfl, hb, c0, c1, c2, c3, ⟨oa, oc, c4, ho⟩, ia, ic, c5, hi2⟩ := HL.out k x HX.out
      have HO := hid ho
      have HI := hid hi2
      clear ho hi2
      cases hx : f x
      · go_wp2_with (go_at_call 96; refine (HK.out x oa ia oc ic _ (List.mem_of_getElem? HX.out) bel (rdRules.to HO.out bel) (rdRules.to HI.out bel)).mono ?_; rintro e w1 ⟨rfl, hb1⟩)
        exact ⟨⟨k + 1, by omega, by go_num, take_any HX.out HA.out hx, bel⟩, by simp [intOf]; omega⟩
      · go_wp2_with (go_at_call 96; refine (HK.out x oa ia oc ic _ (List.mem_of_getElem? HX.out) bel (rdRules.to HO.out bel) (rdRules.to HI.out bel)).mono ?_; rintro e w1 ⟨rfl, hb1⟩)
        go_ret
        exact ⟨ret_bool (by rw [any_true HX.out hx]), bel⟩
    · go_wp2
      go_ret
      have := HA.out
      rw [List.take_of_length_le (by omega)] at this
      exact ⟨ret_bool (by rw [this]), hbw⟩
theorem eoaPol (f : DPol → Bool) (k0 k1 k2 : Value) (a : Option Addr) (cap : Nat) (l : List DPol) (w : World) (hl : rdPols w.heap.size w a l)
    (hK : ∀ (x : DPol) (oa ia : Option Addr) (oc ic : Nat) (w1 : World), x ∈ l → Below w.heap.size w w1 → rdRules w1.heap.size w1 oa x.outs → rdRules w1.heap.size w1 ia x.ins → Calls Tryz.prog 96 #[.agg #[.int .i64 x.space, .int .i64 x.need, .int .i64 x.ban, .int .i64 x.ways, .slice oa x.outs.length oc, .slice ia x.ins.length ic], k0, k1, k2] w1 fun e w2 => e = .returned (.bool (f x)) ∧ Below w1.heap.size w1 w2) :
    Calls Tryz.prog 95 #[.slice a l.length cap, .func (.func 96) #[] #[k0, k1, k2]] w fun e w' => e = .returned (.bool (eoa l f)) ∧ Below w.heap.size w w' := by
  have HK := hid hK
  have HL := hid hl
  have hlen := hl.1
  clear hK hl
  by_cases h : l.length = 0
  · have HF := hid (show eoa l f = true by simp [eoa, h])
    have h2 : ((l.length : Int) == 0) = true := by simp [h]
    go_enter Tryz.func95, Tryz.ntmps95
    go_wp2
    go_ret
    exact ⟨ret_bool (by rw [HF.out]), bel⟩
  · have HF := hid (show eoa l f = l.any f by simp [eoa, h])
    have h2 : ((l.length : Int) == 0) = false := by simp [h]
    go_enter Tryz.func95, Tryz.ntmps95
    go_wp2_with (go_at_call 125; refine (anyPol f _ _ _ _ _ _ _ HL.out HK.out).mono ?_; rintro e w1 ⟨rfl, hb1⟩)
    go_ret
    exact ⟨ret_bool (by rw [HF.out]), bel⟩
theorem appClo_out (x : DPol) (oa ia : Option Addr) (on inn oc ic : Nat) (p : DPod) (wb pb : Nat) (w : World) (hq : polOk x = true) (hp : podOk p = true)
    (cw : w.cell? ⟨wb, 0, none⟩ = some (.int .i64 1)) (c0 : w.cell? ⟨pb, 0, none⟩ = some (.int .i64 p.host)) (c1 : w.cell? ⟨pb, 1, none⟩ = some (.int .i64 p.ip)) (c2 : w.cell? ⟨pb, 2, none⟩ = some (.int .i64 p.space)) (c3 : w.cell? ⟨pb, 3, none⟩ = some (.int .i64 p.labels)) :
    Calls Tryz.prog 123 #[.agg #[.int .i64 x.space, .int .i64 x.need, .int .i64 x.ban, .int .i64 x.ways, .slice oa on oc, .slice ia inn ic], .pointer (some ⟨wb, 0, none⟩), .pointer (some ⟨pb, 0, none⟩)] w fun e w' => e = .returned (.bool (applies 1 p x)) ∧ Below w.heap.size w w' := by
  have l1 := cell_lt cw
  have l2 := cell_lt c0
  have HQ := hid hq
  have HP := hid hp
  clear hq hp
  go_enter Tryz.func123, Tryz.ntmps123
  go_wp2_with (go_at_call 124; refine (applies_out x _ _ _ _ _ _ p _ HQ.out HP.out).mono ?_; rintro e w1 ⟨rfl, hb1⟩; obtain ⟨hc1, hf1⟩ := bcell hb1; have hz1 := hb_lt hb1)
  go_ret
  exact ⟨rfl, bel⟩
set_option maxHeartbeats 1000000 in
theorem applying_out (p : DPod) (l : List DPol) (qa : Option Addr) (qc : Nat) (w : World) (hq : rdPols w.heap.size w qa l) (hok : ∀ q ∈ l, polOk q = true) (hp : podOk p = true) :
    Calls Tryz.prog 94 #[.slice qa l.length qc, .int .i64 1, .agg #[.int .i64 p.host, .int .i64 p.ip, .int .i64 p.space, .int .i64 p.labels]] w fun e w' => (∃ a' c', e = .returned (.slice a' (l.filter (applies 1 p)).length c') ∧ rdPols w'.heap.size w' a' (l.filter (applies 1 p))) ∧ Below w.heap.size w w' := by
  have HQ := hid hq
  have HO := hid hok
  have HP := hid hp
  have hmf := mkFunc
  clear hq hok hp
  go_enter Tryz.func94, Tryz.ntmps94
  go_wp2_with (go_at_call 122; go_must (refine (keepPol (applies 1 p) _ _ _ _ _ _ (rdPols.to HQ.out bel) (fun x oa ia oc ic w2 hx hb2 _ _ => appClo_out x oa ia _ _ oc ic p _ _ w2 (HO.out x hx) HP.out (cell_to (by simp [go_sem]) hb2) (cell_to (by simp [go_sem]) hb2) (cell_to (by simp [go_sem]) hb2) (cell_to (by simp [go_sem]) hb2) (cell_to (by simp [go_sem]) hb2))).mono ?_); rintro e w3 ⟨⟨a', c', rfl, hr3⟩, hb3⟩; have HR3 := hid hr3; clear hr3)
  go_ret
  exact ⟨⟨_, _, rfl, HR3.out⟩, bel⟩
theorem mayClo_out (x : DPol) (oa ia : Option Addr) (oc ic : Nat) (sa : Option Addr) (pods : List DPod) (sc : Nat) (k : DPkt) (wb cb kb : Nat) (w : World)
    (hr : rdRules w.heap.size w oa x.outs) (hd : rdPods w.heap.size w sa pods) (ho : podsOk pods) (hq : polOk x = true) (hk : pktOk k = true)
    (cw : w.cell? ⟨wb, 0, none⟩ = some (.int .i64 1)) (cc : w.cell? ⟨cb, 0, none⟩ = some (.slice sa pods.length sc)) (c0 : w.cell? ⟨kb, 0, none⟩ = some (.int .i64 k.src)) (c1 : w.cell? ⟨kb, 1, none⟩ = some (.int .i64 k.dst)) (c2 : w.cell? ⟨kb, 2, none⟩ = some (.int .i64 k.proto)) (c3 : w.cell? ⟨kb, 3, none⟩ = some (.int .i64 k.port)) :
    Calls Tryz.prog 96 #[.agg #[.int .i64 x.space, .int .i64 x.need, .int .i64 x.ban, .int .i64 x.ways, .slice oa x.outs.length oc, .slice ia x.ins.length ic], .pointer (some ⟨wb, 0, none⟩), .pointer (some ⟨cb, 0, none⟩), .pointer (some ⟨kb, 0, none⟩)] w fun e w' => e = .returned (.bool (letsGo pods 1 k k.dst x)) ∧ Below w.heap.size w w' := by
  have l1 := cell_lt cw
  have l2 := cell_lt cc
  have l3 := cell_lt c0
  have HR := hid hr
  have HD := hid hd
  have HO := hid ho
  have HQ := hid hq
  have HK := hid hk
  clear hr hd ho hq hk
  go_enter Tryz.func96, Tryz.ntmps96
  go_wp2_with (go_at_call 97; refine (letsGo_out x _ _ _ _ _ pods _ k _ (rdRules.to HR.out bel) (rdPods.to HD.out bel) HO.out HQ.out HK.out).mono ?_; rintro e w1 ⟨rfl, hb1⟩; obtain ⟨hc1, hf1⟩ := bcell hb1; have hz1 := hb_lt hb1)
  go_ret
  exact ⟨rfl, bel⟩
set_option maxHeartbeats 4000000 in
theorem mayGo_out (c : DClu) (k : DPkt) (pa qa : Option Addr) (pc qc : Nat) (w : World) (hp : rdPods w.heap.size w pa c.pods) (hq : rdPols w.heap.size w qa c.pols) (hc : cluOk c) (hk : pktOk k = true) :
    Calls Tryz.prog 57 #[.agg #[.slice pa c.pods.length pc, .slice qa c.pols.length qc], .int .i64 1, .agg #[.int .i64 k.src, .int .i64 k.dst, .int .i64 k.proto, .int .i64 k.port]] w fun e w' => e = .returned (.bool (may c 1 k k.src k.dst)) ∧ Below w.heap.size w w' := by
  have HP := hid hp
  have HQ := hid hq
  have HC := hid hc
  have HK := hid hk
  have hl2 := hq.1
  have hmf := mkFunc
  clear hp hq hc hk
  cases hpa : podAt c.pods k.src with
  | none =>
    have HA := hid hpa
    have HF := hid (may_none (way := 1) (k := k) (far := k.dst) hpa)
    clear hpa
    go_enter Tryz.func57, Tryz.ntmps57
    go_wp2_with (first
      | (go_at_call 92; refine (ends_out k _).mono ?_; rintro e w1 ⟨rfl, hb1⟩; obtain ⟨hc1, hf1⟩ := bcell hb1; have hz1 := hb_lt hb1)
      | (go_at_call 93; refine (at_any _ _ c.pods _ _ (rdPods.to HP.out bel)).mono ?_; rw [HA.out, atV]; rintro e w2 ⟨rfl, hb2⟩; obtain ⟨hc2, hf2⟩ := bcell hb2; have hz2 := hb_lt hb2))
    go_ret
    exact ⟨ret_bool (by rw [HF.out]), bel⟩
  | some p =>
    have HA := hid hpa
    have HPP := hid (HC.out.1.1 p (List.mem_of_find?_eq_some hpa))
    have HF := hid (may_held (way := 1) (k := k) (far := k.dst) hpa)
    clear hpa
    go_enter Tryz.func57, Tryz.ntmps57
    go_wp2_with (first
      | (go_at_call 92; refine (ends_out k _).mono ?_; rintro e w1 ⟨rfl, hb1⟩; obtain ⟨hc1, hf1⟩ := bcell hb1; have hz1 := hb_lt hb1; have ec0 : w1.cell? ⟨w.heap.size, 0, none⟩ = some (.slice pa c.pods.length pc) := cell_to (by simp [go_sem]) hb1; have ec1 : w1.cell? ⟨w.heap.size, 1, none⟩ = some (.slice qa c.pols.length qc) := cell_to (by simp [go_sem]) hb1; have ew : w1.cell? ⟨w.heap.size + 1, 0, none⟩ = some (.int .i64 1) := cell_to (by simp [go_sem]) hb1; have ek0 : w1.cell? ⟨w.heap.size + 1 + 1, 0, none⟩ = some (.int .i64 k.src) := cell_to (by simp [go_sem]) hb1; have ek1 : w1.cell? ⟨w.heap.size + 1 + 1, 1, none⟩ = some (.int .i64 k.dst) := cell_to (by simp [go_sem]) hb1; have ek2 : w1.cell? ⟨w.heap.size + 1 + 1, 2, none⟩ = some (.int .i64 k.proto) := cell_to (by simp [go_sem]) hb1; have ek3 : w1.cell? ⟨w.heap.size + 1 + 1, 3, none⟩ = some (.int .i64 k.port) := cell_to (by simp [go_sem]) hb1)
      | (go_at_call 93; refine (at_any _ _ c.pods _ _ (rdPods.to HP.out bel)).mono ?_; rw [HA.out, atV]; rintro e w2 ⟨rfl, hb2⟩; obtain ⟨hc2, hf2⟩ := bcell hb2; have hz2 := hb_lt hb2; have fc0 := cell_to ec0 hb2; have fc1 := cell_to ec1 hb2; have fw := cell_to ew hb2; have fk0 := cell_to ek0 hb2; have fk1 := cell_to ek1 hb2; have fk2 := cell_to ek2 hb2; have fk3 := cell_to ek3 hb2; have ed0 : ∀ o, (w2.alloc o).cell? ⟨w.heap.size, 0, none⟩ = some (.slice pa c.pods.length pc) := fun o => cell_past fc0; have ed1 : ∀ o, (w2.alloc o).cell? ⟨w.heap.size, 1, none⟩ = some (.slice qa c.pols.length qc) := fun o => cell_past fc1; have edw : ∀ o, (w2.alloc o).cell? ⟨w.heap.size + 1, 0, none⟩ = some (.int .i64 1) := fun o => cell_past fw)
      | (go_at_call 94; refine (applying_out p c.pols _ _ _ (rdPols.to HQ.out bel) HC.out.2 HPP.out).mono ?_; rintro e w3 ⟨⟨a', c', rfl, hr3⟩, hb3⟩; have HR3 := hid hr3; clear hr3; have hz3 := hb_lt hb3)
      | (go_at_call 95; go_must (refine (eoaPol (letsGo c.pods 1 k k.dst) _ _ _ _ _ _ _ HR3.out (fun x oa ia oc ic w4 hx hb4 hro hri => mayClo_out x oa ia oc ic pa c.pods pc k _ _ _ w4 hro (rdPods.to (rdPods.to HP.out bel) hb4) HC.out.1 (HC.out.2 x (List.mem_filter.1 hx).1) HK.out (cell_to (cell_to (cell_past fw) hb3) hb4) (cell_to (cell_to (cell_past fc0) hb3) hb4) (cell_to (cell_to (cell_past fk0) hb3) hb4) (cell_to (cell_to (cell_past fk1) hb3) hb4) (cell_to (cell_to (cell_past fk2) hb3) hb4) (cell_to (cell_to (cell_past fk3) hb3) hb4))).mono ?_); rintro e w4 ⟨rfl, hb4⟩; obtain ⟨hc4, hf4⟩ := bcell hb4; have hz4 := hb_lt hb4))
    go_ret
    exact ⟨ret_bool (by rw [HF.out]), bel⟩
def ixOf (l : List DPod) (ip : Int) : Int := match l.findIdx? (fun p => decide (p.ip = ip)) with | some k => k | none => -1
theorem ix_at {l : List DPod} {k : Nat} {x : DPod} {ip : Int} (h : l[k]? = some x) (hb : ∀ j y, j < k → l[j]? = some y → ¬ y.ip = ip) (hx : x.ip = ip) : ixOf l ip = k := by
  obtain ⟨hk, he⟩ := List.getElem?_eq_some_iff.1 h
  have : l.findIdx? (fun p => decide (p.ip = ip)) = some k := by
    rw [List.findIdx?_eq_some_iff_getElem]
    refine ⟨hk, by simp [he, hx], fun j hj => ?_⟩
    have := hb j l[j] hj (by simp)
    simp [this]
  rw [ixOf, this]
theorem ix_none {l : List DPod} {ip : Int} (hb : ∀ j y, j < l.length → l[j]? = some y → ¬ y.ip = ip) : ixOf l ip = -1 := by
  have : l.findIdx? (fun p => decide (p.ip = ip)) = none := by
    rw [List.findIdx?_eq_none_iff]
    intro x hx
    obtain ⟨j, hj, he⟩ := List.getElem_of_mem hx
    have := hb j x hj (by rw [List.getElem?_eq_getElem hj, he])
    simp [this]
  rw [ixOf, this]
theorem podAt_ix {l : List DPod} {ip : Int} {p : DPod} (h : podAt l ip = some p) : ∃ k : Nat, l[k]? = some p ∧ ixOf l ip = k := by
  unfold podAt at h
  rw [List.find?_eq_some_iff_getElem] at h
  obtain ⟨hp, k, hk, he, hb⟩ := h
  have hk2 : l[k]? = some p := by rw [List.getElem?_eq_getElem hk, he]
  refine ⟨k, hk2, ix_at hk2 (fun j y hj hy => ?_) (by simpa using hp)⟩
  have := hb j hj
  obtain ⟨h1, h2⟩ := List.getElem?_eq_some_iff.1 hy
  rw [h2] at this
  simpa using this
theorem podAt_ixn {l : List DPod} {ip : Int} (h : podAt l ip = none) : ixOf l ip = -1 := by
  refine ix_none (fun j y hj hy he => ?_)
  unfold podAt at h
  rw [List.find?_eq_none] at h
  have := h y (List.mem_of_getElem? hy)
  simp [he] at this
set_option maxHeartbeats 2000000 in
theorem refAt_any (l : List DPod) (ip : Int) (pa qa : Option Addr) (pc qn qc : Nat) (w : World) (hp : rdPods w.heap.size w pa l) :
    Calls Tryz.prog 110 #[.agg #[.slice pa l.length pc, .slice qa qn qc], .int .i64 ip] w fun e w' => e = .returned (.int .i64 (ixOf l ip)) ∧ Below w.heap.size w w' := by
  have HP := hid hp
  have hlen := hp.1
  clear hp
  go_enter Tryz.func110, Tryz.ntmps110
  go_wp2
  go_loop [5] (fun i => ∃ k : Nat, k ≤ l.length ∧ i = .int .i64 k ∧ ∀ j y, j < k → l[j]? = some y → ¬ y.ip = ip) (fun i => l.length - (intOf i).toNat)
  case atStart => exact ⟨0, Nat.zero_le _, rfl, fun j y hj => absurd hj (Nat.not_lt_zero _)⟩
  case round =>
    obtain ⟨k, hk, rfl, hall⟩ := hrel
    have HA := hid hall
    clear hall
    by_cases hlt : k < l.length
    · obtain ⟨x, hxk⟩ : ∃ x, l[k]? = some x := ⟨l[k], by simp [hlt]⟩
      have HX := hid hxk
      clear hxk
      obtain ⟨b, off, rfl, hb, c0, c1, c2, c3⟩ := HP.out.2 k x HX.out
      cases hx : (x.ip == ip)
      · go_wp2
        go_round
        case rel =>
          refine ⟨k + 1, by omega, by go_num, fun j y hj hy => ?_⟩
          rcases Nat.lt_succ_iff_lt_or_eq.1 hj with h | h
          · exact HA.out j y h hy
          · subst h
            rw [HX.out] at hy
            cases hy
            simpa using hx
        case measure => simp [intOf]; omega
      · have HF := hid (ix_at HX.out HA.out (by simpa using hx))
        go_wp2
        go_ret
        exact ⟨by rw [HF.out]; rfl, bel⟩
    · have HF := hid (ix_none (l := l) (ip := ip) (fun j y hj => HA.out j y (by omega)))
      go_wp2
      go_ret
      exact ⟨by rw [HF.out]; rfl, bel⟩
set_option maxRecDepth 100000 in
set_option maxHeartbeats 4000000 in
theorem refHasBlocks (x : DPeer) (ea : Option Addr) (ec : Nat) (ip space : Int) (pa qa : Option Addr) (pn pc qn qc : Nat) (w : World) (hr : rdBlks w.heap.size w ea x.exc)
    (hk : x.kind = 2) (hx : blkOk ⟨x.base, x.bits⟩ = true) (he : x.exc.all blkOk = true) (h0 : 0 ≤ ip) (h1 : ip ≤ 4294967295) :
    Calls Tryz.prog 167 #[.agg #[.slice pa pn pc, .slice qa qn qc], .int .i64 space, .agg #[.int .i64 x.kind, .int .i64 x.need, .int .i64 x.ban, .int .i64 x.spaces, .int .i64 x.base, .int .i64 x.bits, .slice ea x.exc.length ec], .int .i64 ip] w
      fun e w' => e = .returned (.bool (blkHas ip ⟨x.base, x.bits⟩ && !(x.exc.any (blkHas ip)))) ∧ Below w.heap.size w w' := by
  have HR := hid hr
  have HX := hid hx
  have HE := hid he
  have hlen := hr.1
  have hk2 : (x.kind == 2) = true := by simp [hk]
  clear hr hx he hk
  go_enter Tryz.func167, Tryz.ntmps167
  go_wp2_with (go_at_call 144; refine (refHas_any ⟨x.base, x.bits⟩ ip _ HX.out h0 h1).mono ?_; rintro e w1 ⟨rfl, hb1⟩; obtain ⟨hc1, hf1⟩ := bcell hb1; have hz1 := hb_lt hb1)
  have y6 : w1.cell? ⟨w.heap.size + 1, 6, none⟩ = some (.slice ea x.exc.length ec) := cell_to (by simp [go_sem]) hb1
  have hB : Below w.heap.size w w1 := bel
  clear hc1 hf1 hz1
  go_loopw [9, 10] (fun inn i wr => ∃ t : Nat, t ≤ x.exc.length ∧ i = .int .i64 t ∧ inn = .bool (blkHas ip ⟨x.base, x.bits⟩ && !((x.exc.take t).any (blkHas ip))) ∧ Below w1.heap.size w1 wr) (fun _ i _ => x.exc.length - (intOf i).toNat)
  case atStart => exact ⟨0, Nat.zero_le _, rfl, by simp, Below.refl _ _⟩
  case round =>
    obtain ⟨t, ht, rfl, rfl, hbw⟩ := hrel
    have z6 := cell_to y6 hbw
    have hC : Below w.heap.size w wr := Ext.trans hB hbw
    by_cases hlt : t < x.exc.length
    · obtain ⟨y, hyk⟩ : ∃ y, x.exc[t]? = some y := ⟨x.exc[t], by simp [hlt]⟩
      have HY := hid hyk
      have HT := hid (take_any' (f := blkHas ip) hyk)
      have HO := hid (List.all_eq_true.1 HE.out y (List.mem_of_getElem? hyk))
      clear hyk
      obtain ⟨b, off, rfl, hb, c0, c1⟩ := HR.out.2 t y HY.out
      have d0 := cell_to c0 hC
      have d1 := cell_to c1 hC
      clear c0 c1
      generalize hg : (blkHas ip ⟨x.base, x.bits⟩ && !((x.exc.take t).any (blkHas ip))) = g
      have HH := hid (show (blkHas ip ⟨x.base, x.bits⟩ && !((x.exc.take (t + 1)).any (blkHas ip))) = (g && !(blkHas ip y)) by rw [HT.out, Bool.not_or, ← Bool.and_assoc, hg])
      clear hg
      cases g
      · go_wp2_with (go_at_call 144; refine (refHas_any y ip _ HO.out h0 h1).mono ?_; rintro e w2 ⟨rfl, hb2⟩; obtain ⟨hc2, hf2⟩ := bcell hb2; have hz2 := hb_lt hb2)
        exact ⟨⟨t + 1, by omega, by go_num, by rw [HH.out]; rfl, Ext.trans hbw hb2⟩, by simp [intOf]; omega⟩
      · go_wp2_with (go_at_call 144; refine (refHas_any y ip _ HO.out h0 h1).mono ?_; rintro e w2 ⟨rfl, hb2⟩; obtain ⟨hc2, hf2⟩ := bcell hb2; have hz2 := hb_lt hb2)
        exact ⟨⟨t + 1, by omega, by go_num, by rw [HH.out]; simp, Ext.trans hbw hb2⟩, by simp [intOf]; omega⟩
    · have e : x.exc.take t = x.exc := List.take_of_length_le (by omega)
      rw [e]
      clear e
      go_wp2
      go_ret
      exact ⟨rfl, hC⟩
def i64 (n : Int) : Prop := -9223372036854775808 ≤ n ∧ n ≤ 9223372036854775807
def pk (c n : Int) : Int := (if c < 0 then -(c + 1) else c) % n
theorem pk_in {c n : Int} (hn : 0 < n) : 0 ≤ pk c n ∧ pk c n < n := ⟨Int.emod_nonneg _ (by omega), Int.emod_lt_of_pos _ hn⟩
def mkBlk (b : DBlk) : DBlk := ⟨pk b.base 4294967296 - pk b.base 4294967296 % pw (pk b.bits 33), pk b.bits 33⟩
theorem mkBlk_ok (b : DBlk) : blkOk (mkBlk b) = true := by
  have h1 := pk_in (c := b.bits) (n := 33) (by decide)
  have h2 := pk_in (c := b.base) (n := 4294967296) (by decide)
  have hp := pw_pos (pk b.bits 33)
  have h3 := Int.emod_nonneg (pk b.base 4294967296) (show pw (pk b.bits 33) ≠ 0 by omega)
  have h4 := Int.emod_add_mul_ediv (pk b.base 4294967296) (pw (pk b.bits 33))
  refine blkOk_true.2 ⟨h1.1, by show pk b.bits 33 ≤ 32; omega, ?_, ?_, ?_⟩
  · show 0 ≤ pk b.base 4294967296 - pk b.base 4294967296 % pw (pk b.bits 33)
    have h5 : 0 ≤ pw (pk b.bits 33) * (pk b.base 4294967296 / pw (pk b.bits 33)) := Int.mul_nonneg (by omega) (Int.ediv_nonneg h2.1 (by omega))
    omega
  · show pk b.base 4294967296 - pk b.base 4294967296 % pw (pk b.bits 33) ≤ 4294967295
    omega
  · show (pk b.base 4294967296 - pk b.base 4294967296 % pw (pk b.bits 33)) % pw (pk b.bits 33) = 0
    rw [show pk b.base 4294967296 - pk b.base 4294967296 % pw (pk b.bits 33) = pw (pk b.bits 33) * (pk b.base 4294967296 / pw (pk b.bits 33)) by omega]
    exact Int.mul_emod_right _ _
end Go.Proofs.YtmkjlhplgcifiaaGreat
