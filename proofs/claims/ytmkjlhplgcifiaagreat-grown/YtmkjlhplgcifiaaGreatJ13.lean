/-
  palisade.Right: the whole of P3.
  The document's answer: P3.
-/
import Derived.Test.YtmkjlhplgcifiaaGreatJ08
import Derived.Test.YtmkjlhplgcifiaaGreatJ11
import Derived.Test.YtmkjlhplgcifiaaGreatJ12
namespace Go.Proofs.YtmkjlhplgcifiaaGreat
open Go.ChangeShapes Go.WideShapes Go.ChangeAt Go.RowKit
attribute [local simp] World.cell?_grow
attribute [local go_sem] World.cell?_grow
attribute [local simp] World.cell?_alloc_there
attribute [local go_sem] World.cell?_alloc_there
attribute [local go_sem] eqg_blk std_blk eqg_pod std_pod eqg_sel std_sel eqg_prt std_prt
attribute [local go_sem ↓] eql_blk eql_sel neq_sel eql_prt eql_pod
attribute [local go_sem ↓] met_in1 met_in2 met_re1 met_re2
attribute [local go_sem ↓] met_has1 met_has2
set_option linter.unusedVariables false
set_option linter.unusedSimpArgs false
theorem firstBad_none {good : Nat → Bool} {n : Nat} (h : ∀ j, j < n → good j = true) : firstBad good n = none := by
  unfold firstBad
  rw [List.find?_eq_none]
  intro i hi
  simp [h i (List.mem_range.1 hi)]
theorem firstBad_some {good : Nat → Bool} {n k : Nat} (h : ∀ j, j < k → good j = true) (hk : k < n) (hb : good k = false) : firstBad good n = some k := by
  unfold firstBad
  rw [List.find?_eq_some_iff_getElem]
  refine ⟨by simp [hb], k, by simpa using hk, by simp, fun j hj => ?_⟩
  simp [h j hj]
theorem right_many {c : DClu} (h : 8 < c.pods.length ∨ 4 < c.pols.length) : right c = (1, 0) := by rw [right, if_pos h]
theorem right_pod {c : DClu} {k : Nat} (h : ¬ (8 < c.pods.length ∨ 4 < c.pols.length)) (hk : firstBad (podGood c.pods) c.pods.length = some k) : right c = (2, (k : Int)) := by
  rw [right, if_neg h, hk]
theorem right_pol {c : DClu} {k : Nat} (h : ¬ (8 < c.pods.length ∨ 4 < c.pols.length)) (hp : firstBad (podGood c.pods) c.pods.length = none) (hk : firstBad (polGood c.pols) c.pols.length = some k) : right c = (3, (k : Int)) := by
  rw [right, if_neg h, hp]; simp only [hk]
theorem right_ok {c : DClu} (h : ¬ (8 < c.pods.length ∨ 4 < c.pols.length)) (hp : firstBad (podGood c.pods) c.pods.length = none) (hk : firstBad (polGood c.pols) c.pols.length = none) : right c = (0, 0) := by
  rw [right, if_neg h, hp]; simp only [hk]
theorem taken_eq (m : List DPod) (ip : Int) : (podAt m ip).isSome = !(m.all fun q => decide (q.ip ≠ ip)) := by
  unfold podAt
  induction m with
  | nil => rfl
  | cons a t ih =>
    by_cases h : a.ip = ip
    · simp [List.find?_cons, h]
    · simp only [List.find?_cons, decide_eq_false h, List.all_cons, decide_eq_true (show a.ip ≠ ip from h), Bool.true_and]
      exact ih
theorem podGood_some {l : List DPod} {k : Nat} {p : DPod} (h : l[k]? = some p) : podGood l k = (podOk p && !(podAt (l.take k) p.ip).isSome) := by
  rw [podGood, h]
  show (podOk p && _) = _
  rw [taken_eq, Bool.not_not]
theorem polGood_some {l : List DPol} {k : Nat} {p : DPol} (h : l[k]? = some p) : polGood l k = polOk p := by rw [polGood, h]
theorem rdPods_take {B : Nat} {w : World} {a : Option Addr} {l : List DPod} (h : rdPods B w a l) (k : Nat) : rdPods B w a (l.take k) := by
  refine ⟨?_, fun i x hx => h.2 i x ?_⟩
  · have := h.1
    have h2 : (l.take k).length ≤ l.length := by rw [List.length_take]; omega
    omega
  · rw [List.getElem?_take] at hx
    split at hx
    · exact hx
    · cases hx
theorem taken_take (a : Option Addr) (cap k : Nat) (l : List DPod) (ip : Int) (w : World) (hl : rdPods w.heap.size w a l) (hk : k ≤ l.length) :
    Calls Tryz.prog 68 #[.slice a k cap, .int .i64 ip] w fun e w' => e = .returned (.bool (podAt (l.take k) ip).isSome) ∧ Below w.heap.size w w' := by
  have := taken_any a cap (l.take k) ip w (rdPods_take hl k)
  rwa [List.length_take, Nat.min_eq_left hk] at this
set_option maxHeartbeats 4000000 in
theorem right_any (c : DClu) (pa qa : Option Addr) (pc qc : Nat) (w : World) (hp : rdPods w.heap.size w pa c.pods) (hq : rdPols w.heap.size w qa c.pols) (hpc : c.pods.length ≤ pc) :
    Calls Tryz.prog 56 #[.agg #[.slice pa c.pods.length pc, .slice qa c.pols.length qc]] w fun e w' => e = .returned (.tuple #[.int .i64 (right c).1, .int .i64 (right c).2]) ∧ Below w.heap.size w w' := by
  have HP := hid hp
  have HQ := hid hq
  have hl1 := hp.1
  have hl2 := hq.1
  clear hp hq
  by_cases hn : 8 < c.pods.length
  · have HR := hid (right_many (c := c) (Or.inl hn))
    go_enter Tryz.func56, Tryz.ntmps56
    go_wp2
    go_ret2
    exact ⟨by rw [HR.out]; rfl, (by repeat (first | exact Below.refl _ _ | assumption | apply Ext.alloc | apply Ext.drewN | apply Ext.drew | refine Ext.trans ?_ (by assumption)))⟩
  by_cases hm : 4 < c.pols.length
  · have HR := hid (right_many (c := c) (Or.inr hm))
    go_enter Tryz.func56, Tryz.ntmps56
    go_wp2
    go_ret2
    exact ⟨by rw [HR.out]; rfl, (by repeat (first | exact Below.refl _ _ | assumption | apply Ext.alloc | apply Ext.drewN | apply Ext.drew | refine Ext.trans ?_ (by assumption)))⟩
  have HN := hid (show ¬ (8 < c.pods.length ∨ 4 < c.pols.length) by omega)
  go_enter Tryz.func56, Tryz.ntmps56
  go_wp2
  go_loopw [21] (fun i wr => ∃ k : Nat, k ≤ c.pods.length ∧ i = .int .i64 k ∧ (∀ j, j < k → podGood c.pods j = true) ∧ Below (w.alloc (Obj.cells #[.slice pa c.pods.length pc, .slice qa c.pols.length qc] 28)).heap.size (w.alloc (Obj.cells #[.slice pa c.pods.length pc, .slice qa c.pols.length qc] 28)) wr) (fun i _ => c.pods.length - (intOf i).toNat)
  case atStart => exact ⟨0, Nat.zero_le _, rfl, fun j hj => absurd hj (Nat.not_lt_zero _), Below.refl _ _⟩
  case round =>
    obtain ⟨k, hk, rfl, hall, hbw⟩ := hrel
    have HA := hid hall
    clear hall
    have HW := hid hbw
    have hB : Below w.heap.size w wr := (Below.refl _ _ |>.alloc (Nat.le_refl _) _).trans (hbw.mono (by simp))
    clear hbw
    have z0 : wr.cell? ⟨w.heap.size, 0, none⟩ = some (.slice pa c.pods.length pc) := cell_to (by simp [go_sem]) HW.out
    have z1 : wr.cell? ⟨w.heap.size, 1, none⟩ = some (.slice qa c.pols.length qc) := cell_to (by simp [go_sem]) HW.out
    by_cases hlt : k < c.pods.length
    · obtain ⟨x, hxk⟩ : ∃ x, c.pods[k]? = some x := ⟨c.pods[k], by simp [hlt]⟩
      have HX := hid hxk
      have HG := hid (podGood_some hxk)
      clear hxk
      obtain ⟨b, off, rfl, hb, c0, c1, c2, c3⟩ := HP.out.2 k x HX.out
      have d0 := cell_to c0 hB
      have d1 := cell_to c1 hB
      have d2 := cell_to c2 hB
      have d3 := cell_to c3 hB
      have y0 : ∀ o, (wr.alloc o).cell? ⟨w.heap.size, 0, none⟩ = some (.slice (some ⟨b, off, none⟩) c.pods.length pc) := fun o => cell_past z0
      clear c0 c1 c2 c3
      cases hq1 : podOk x
      · have HF := hid (right_pod HN.out (firstBad_some HA.out hlt (by rw [HG.out, hq1]; rfl)))
        go_wp2
        refine wp_region_grow (by kernel_rfl) (by kernel_rfl) ?_
        repeat (go_big_quiet_step (first
          | (go_at_call 90; exact Calls.grow_bool hq1 (podRight_any x _))))
        refine wpQuiet_nil ?_
        intro w1 hb1
        obtain ⟨hc1, hf1⟩ := bcell hb1
        have hz1 := hb_lt hb1
        go_wp2
        go_ret2
        exact ⟨by rw [HF.out]; rfl, (by repeat (first | exact Below.refl _ _ | assumption | apply Ext.alloc | apply Ext.drewN | apply Ext.drew | refine Ext.trans ?_ (by assumption)))⟩
      · cases hq2 : (podAt (c.pods.take k) x.ip).isSome
        · have HH := hid (show podGood c.pods k = true by rw [HG.out, hq1, hq2]; rfl)
          go_wp2
          refine wp_region_grow (by kernel_rfl) (by kernel_rfl) ?_
          repeat (go_big_quiet_step (first
            | (go_at_call 90; exact Calls.grow_bool hq1 (podRight_any x _))
            | (go_at_call 68; exact Calls.grow_bool hq2 (taken_take _ _ _ _ _ _ (rdPods.to (rdPods.to HP.out (Ext.alloc hB _)) (World.below_grow _ _)) hk))))
          refine wpQuiet_nil ?_
          intro w1 hb1
          obtain ⟨hc1, hf1⟩ := bcell hb1
          have hz1 := hb_lt hb1
          go_wp2
          exact ⟨⟨k + 1, by omega, by go_num, fun j hj => by
            rcases Nat.lt_succ_iff_lt_or_eq.1 hj with h | h
            · exact HA.out j h
            · subst h; exact HH.out, Ext.trans (Ext.alloc HW.out _) hb1⟩, by simp [intOf]; omega⟩
        · have HF := hid (right_pod HN.out (firstBad_some HA.out hlt (by rw [HG.out, hq1, hq2]; rfl)))
          go_wp2
          refine wp_region_grow (by kernel_rfl) (by kernel_rfl) ?_
          repeat (go_big_quiet_step (first
            | (go_at_call 90; exact Calls.grow_bool hq1 (podRight_any x _))
            | (go_at_call 68; exact Calls.grow_bool hq2 (taken_take _ _ _ _ _ _ (rdPods.to (rdPods.to HP.out (Ext.alloc hB _)) (World.below_grow _ _)) hk))))
          refine wpQuiet_nil ?_
          intro w1 hb1
          obtain ⟨hc1, hf1⟩ := bcell hb1
          have hz1 := hb_lt hb1
          go_wp2
          go_ret2
          exact ⟨by rw [HF.out]; rfl, (by repeat (first | exact Below.refl _ _ | assumption | apply Ext.alloc | apply Ext.drewN | apply Ext.drew | refine Ext.trans ?_ (by assumption)))⟩
    · have HD := hid (firstBad_none (good := podGood c.pods) (n := c.pods.length) (fun j hj => HA.out j (by omega)))
      obtain ⟨wa, hwa⟩ : ∃ wa, wa = wr := ⟨_, rfl⟩
      subst hwa
      go_wp2
      go_loopw [43] (fun i wr => ∃ j : Nat, j ≤ c.pols.length ∧ i = .int .i64 j ∧ (∀ t, t < j → polGood c.pols t = true) ∧ Below wa.heap.size wa wr) (fun i _ => c.pols.length - (intOf i).toNat)
      case atStart => exact ⟨0, Nat.zero_le _, rfl, fun j hj => absurd hj (Nat.not_lt_zero _), Below.refl _ _⟩
      case round =>
        obtain ⟨j, hj, rfl, hall, hbw⟩ := hrel
        have HE := hid hall
        clear hall
        have hC : Below w.heap.size w wr := Ext.trans hB hbw
        by_cases hlt2 : j < c.pols.length
        · obtain ⟨x, hxk⟩ : ∃ x, c.pols[j]? = some x := ⟨c.pols[j], by simp [hlt2]⟩
          have HX := hid hxk
          have HG := hid (polGood_some hxk)
          clear hxk
          obtain ⟨b, off, rfl, hb, c0, c1, c2, c3, ⟨oa, oc, c4, ho⟩, ia, ic, c5, hi⟩ := HQ.out.2 j x HX.out
          have d0 := cell_to c0 hC
          have d1 := cell_to c1 hC
          have d2 := cell_to c2 hC
          have d3 := cell_to c3 hC
          have d4 := cell_to c4 hC
          have d5 := cell_to c5 hC
          have HO := hid ho
          have HI := hid hi
          clear c0 c1 c2 c3 c4 c5 ho hi
          cases hq1 : polOk x
          · have HF := hid (right_pol HN.out HD.out (firstBad_some HE.out hlt2 (by rw [HG.out, hq1])))
            go_wp2_with (go_at_call 91; refine (polRight_any x _ _ _ _ _ (rdRules.to HO.out (by repeat (first | exact Below.refl _ _ | assumption | apply Ext.alloc | apply Ext.drewN | apply Ext.drew | refine Ext.trans ?_ (by assumption)))) (rdRules.to HI.out (by repeat (first | exact Below.refl _ _ | assumption | apply Ext.alloc | apply Ext.drewN | apply Ext.drew | refine Ext.trans ?_ (by assumption))))).mono ?_; rintro e w1 ⟨rfl, hb1⟩; obtain ⟨hc1, hf1⟩ := bcell hb1; have hz1 := hb_lt hb1)
            go_ret2
            exact ⟨by rw [HF.out]; rfl, (by repeat (first | exact Below.refl _ _ | assumption | apply Ext.alloc | apply Ext.drewN | apply Ext.drew | refine Ext.trans ?_ (by assumption)))⟩
          · go_wp2_with (go_at_call 91; refine (polRight_any x _ _ _ _ _ (rdRules.to HO.out (by repeat (first | exact Below.refl _ _ | assumption | apply Ext.alloc | apply Ext.drewN | apply Ext.drew | refine Ext.trans ?_ (by assumption)))) (rdRules.to HI.out (by repeat (first | exact Below.refl _ _ | assumption | apply Ext.alloc | apply Ext.drewN | apply Ext.drew | refine Ext.trans ?_ (by assumption))))).mono ?_; rintro e w1 ⟨rfl, hb1⟩; obtain ⟨hc1, hf1⟩ := bcell hb1; have hz1 := hb_lt hb1)
            exact ⟨⟨j + 1, by omega, by go_num, fun t ht => by
              rcases Nat.lt_succ_iff_lt_or_eq.1 ht with h | h
              · exact HE.out t h
              · subst h; rw [HG.out, hq1], Ext.trans (Ext.alloc hbw _) hb1⟩, by simp [intOf]; omega⟩
        · have HF := hid (right_ok HN.out HD.out (firstBad_none (fun t ht => HE.out t (by omega))))
          go_wp2
          go_ret2
          exact ⟨by rw [HF.out]; rfl, hC⟩
end Go.Proofs.YtmkjlhplgcifiaaGreat
namespace Go.Proofs.YtmkjlhplgcifiaaGreat
open Go.ChangeShapes Go.WideShapes Go.ChangeAt Go.RowKit
attribute [local simp] World.cell?_grow
attribute [local go_sem] World.cell?_grow
attribute [local simp] World.cell?_alloc_there
attribute [local go_sem] World.cell?_alloc_there
attribute [local go_sem] eqg_blk std_blk eqg_pod std_pod eqg_sel std_sel eqg_prt std_prt
attribute [local go_sem ↓] eql_blk eql_sel neq_sel eql_prt eql_pod
attribute [local go_sem ↓] met_in1 met_in2 met_re1 met_re2
attribute [local go_sem ↓] met_has1 met_has2
set_option linter.unusedVariables false
set_option linter.unusedSimpArgs false
end Go.Proofs.YtmkjlhplgcifiaaGreat
