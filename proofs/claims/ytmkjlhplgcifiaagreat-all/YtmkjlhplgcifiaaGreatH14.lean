/-
  palisade.Allowed: the whole of P4.
-/
import Derived.Test.YtmkjlhplgcifiaaGreatH08
import Derived.Test.YtmkjlhplgcifiaaGreatH13
namespace Go.Proofs.YtmkjlhplgcifiaaGreat
open Go.ChangeShapes Go.WideShapes Go.ChangeAt Go.RowKit
set_option linter.unusedVariables false
set_option linter.unusedSimpArgs false
attribute [local simp] World.cell?_grow World.cell?_alloc_there
attribute [local go_sem] World.cell?_grow World.cell?_alloc_there eqg_blk std_blk eqg_pod std_pod eqg_sel std_sel eqg_prt std_prt
attribute [local go_sem ↓] eql_blk eql_sel neq_sel eql_prt eql_pod met_in1 met_in2 met_re1 met_re2 met_has1 met_has2
theorem firstBad_none' {good : Nat → Bool} {n : Nat} (h : firstBad good n = none) : ∀ j, j < n → good j = true := by
  unfold firstBad at h
  rw [List.find?_eq_none] at h
  intro j hj
  have := h j (List.mem_range.2 hj)
  simpa using this
theorem right_zero {c : DClu} (h : (right c).1 = 0) : cluOk c := by
  unfold right at h
  split at h
  · cases h
  · cases h1 : firstBad (podGood c.pods) c.pods.length with
    | some i => rw [h1] at h; cases h
    | none =>
      rw [h1] at h
      cases h2 : firstBad (polGood c.pols) c.pols.length with
      | some i => simp only [h2] at h; cases h
      | none =>
        have g1 := firstBad_none' h1
        have g2 := firstBad_none' h2
        refine ⟨⟨fun p hp => ?_, ?_⟩, fun q hq => ?_⟩
        · obtain ⟨j, hj, rfl⟩ := List.getElem_of_mem hp
          have := g1 j hj
          rw [podGood_some (List.getElem?_eq_getElem hj), Bool.and_eq_true] at this
          exact this.1
        · rw [List.pairwise_iff_getElem]
          intro i j hi hj hij he
          have := g1 j hj
          rw [podGood, List.getElem?_eq_getElem hj] at this
          simp only [Bool.and_eq_true, List.all_eq_true] at this
          have h3 := this.2 c.pods[i] (List.mem_take_iff_getElem.2 ⟨i, by omega, rfl⟩)
          simp [he] at h3
        · obtain ⟨j, hj, rfl⟩ := List.getElem_of_mem hq
          have := g2 j hj
          rwa [polGood_some (List.getElem?_eq_getElem hj)] at this
set_option maxHeartbeats 4000000 in
theorem allowed_any (c : DClu) (k : DPkt) (pa qa : Option Addr) (pc qc : Nat) (w : World) (hp : rdPods w.heap.size w pa c.pods) (hq : rdPols w.heap.size w qa c.pols) (hpc : c.pods.length ≤ pc) :
    Calls Tryz.prog 32 #[.agg #[.slice pa c.pods.length pc, .slice qa c.pols.length qc], .agg #[.int .i64 k.src, .int .i64 k.dst, .int .i64 k.proto, .int .i64 k.port]] w
      fun e w' => e = .returned (.tuple #[.bool (allowed c k).1, .int .i64 (allowed c k).2]) ∧ Below w.heap.size w w' := by
  have HP := hid hp
  have HQ := hid hq
  clear hp hq
  by_cases h0 : (right c).1 = 0
  · have HC := hid (right_zero h0)
    have HE := hid h0
    cases hk : pktOk k
    · have HF := hid (show allowed c k = (false, 4) by rw [allowed, if_neg (by simp [h0]), if_pos hk])
      have HK := hid hk
      clear h0
      go_enter Tryz.func32, Tryz.ntmps32
      go_wp2_with (first
        | (go_at_call 56; refine (right_any c _ _ _ _ _ (rdPods.to HP.out bel) (rdPols.to HQ.out bel) hpc).mono ?_; rw [HE.out]; rintro e w1 ⟨rfl, hb1⟩; obtain ⟨hc1, hf1⟩ := bcell hb1; have hz1 := hb_lt hb1; have ca0 : w1.cell? ⟨w.heap.size, 0, none⟩ = some (.slice pa c.pods.length pc) := cell_to (by simp [go_sem]) hb1; have ca1 : w1.cell? ⟨w.heap.size, 1, none⟩ = some (.slice qa c.pols.length qc) := cell_to (by simp [go_sem]) hb1; have ca2 : w1.cell? ⟨w.heap.size + 1, 0, none⟩ = some (.int .i64 k.src) := cell_to (by simp [go_sem]) hb1; have ca3 : w1.cell? ⟨w.heap.size + 1, 1, none⟩ = some (.int .i64 k.dst) := cell_to (by simp [go_sem]) hb1; have ca4 : w1.cell? ⟨w.heap.size + 1, 2, none⟩ = some (.int .i64 k.proto) := cell_to (by simp [go_sem]) hb1; have ca5 : w1.cell? ⟨w.heap.size + 1, 3, none⟩ = some (.int .i64 k.port) := cell_to (by simp [go_sem]) hb1)
        | (go_at_call 36; refine (pktRight_any k _).mono ?_; rw [HK.out]; rintro e w2 ⟨rfl, hb2⟩; obtain ⟨hc2, hf2⟩ := bcell hb2; have hz2 := hb_lt hb2; have cb0 := cell_to ca0 hb2; have cb1 := cell_to ca1 hb2; have cb2 := cell_to ca2 hb2; have cb3 := cell_to ca3 hb2; have cb4 := cell_to ca4 hb2; have cb5 := cell_to ca5 hb2))
      go_ret2
      exact ⟨by rw [HF.out]; rfl, bel⟩
    · have HK := hid hk
      cases hm : may c 1 k k.src k.dst
      · have HF := hid (show allowed c k = (false, 0) by rw [allowed, if_neg (by simp [h0]), if_neg (by simp [hk]), hm]; rfl)
        clear h0
        go_enter Tryz.func32, Tryz.ntmps32
        go_wp2_with (first
          | (go_at_call 56; refine (right_any c _ _ _ _ _ (rdPods.to HP.out bel) (rdPols.to HQ.out bel) hpc).mono ?_; rw [HE.out]; rintro e w1 ⟨rfl, hb1⟩; obtain ⟨hc1, hf1⟩ := bcell hb1; have hz1 := hb_lt hb1; have ca0 : w1.cell? ⟨w.heap.size, 0, none⟩ = some (.slice pa c.pods.length pc) := cell_to (by simp [go_sem]) hb1; have ca1 : w1.cell? ⟨w.heap.size, 1, none⟩ = some (.slice qa c.pols.length qc) := cell_to (by simp [go_sem]) hb1; have ca2 : w1.cell? ⟨w.heap.size + 1, 0, none⟩ = some (.int .i64 k.src) := cell_to (by simp [go_sem]) hb1; have ca3 : w1.cell? ⟨w.heap.size + 1, 1, none⟩ = some (.int .i64 k.dst) := cell_to (by simp [go_sem]) hb1; have ca4 : w1.cell? ⟨w.heap.size + 1, 2, none⟩ = some (.int .i64 k.proto) := cell_to (by simp [go_sem]) hb1; have ca5 : w1.cell? ⟨w.heap.size + 1, 3, none⟩ = some (.int .i64 k.port) := cell_to (by simp [go_sem]) hb1)
          | (go_at_call 36; refine (pktRight_any k _).mono ?_; rw [HK.out]; rintro e w2 ⟨rfl, hb2⟩; obtain ⟨hc2, hf2⟩ := bcell hb2; have hz2 := hb_lt hb2; have cb0 := cell_to ca0 hb2; have cb1 := cell_to ca1 hb2; have cb2 := cell_to ca2 hb2; have cb3 := cell_to ca3 hb2; have cb4 := cell_to ca4 hb2; have cb5 := cell_to ca5 hb2)
          | (go_at_call 57; refine (mayGo_out c k _ _ _ _ _ (rdPods.to HP.out bel) (rdPols.to HQ.out bel) HC.out HK.out).mono ?_; rintro e w3 ⟨rfl, hb3⟩; obtain ⟨hc3, hf3⟩ := bcell hb3; have hz3 := hb_lt hb3; have cc0 := cell_to cb0 hb3; have cc1 := cell_to cb1 hb3; have cc2 := cell_to cb2 hb3; have cc3 := cell_to cb3 hb3; have cc4 := cell_to cb4 hb3; have cc5 := cell_to cb5 hb3))
        go_ret2
        exact ⟨by rw [HF.out]; rfl, bel⟩
      · have HF := hid (show allowed c k = (may c 2 k k.dst k.src, 0) by rw [allowed, if_neg (by simp [h0]), if_neg (by simp [hk]), hm]; rfl)
        clear h0
        go_enter Tryz.func32, Tryz.ntmps32
        go_wp2_with (first
          | (go_at_call 56; refine (right_any c _ _ _ _ _ (rdPods.to HP.out bel) (rdPols.to HQ.out bel) hpc).mono ?_; rw [HE.out]; rintro e w1 ⟨rfl, hb1⟩; obtain ⟨hc1, hf1⟩ := bcell hb1; have hz1 := hb_lt hb1; have ca0 : w1.cell? ⟨w.heap.size, 0, none⟩ = some (.slice pa c.pods.length pc) := cell_to (by simp [go_sem]) hb1; have ca1 : w1.cell? ⟨w.heap.size, 1, none⟩ = some (.slice qa c.pols.length qc) := cell_to (by simp [go_sem]) hb1; have ca2 : w1.cell? ⟨w.heap.size + 1, 0, none⟩ = some (.int .i64 k.src) := cell_to (by simp [go_sem]) hb1; have ca3 : w1.cell? ⟨w.heap.size + 1, 1, none⟩ = some (.int .i64 k.dst) := cell_to (by simp [go_sem]) hb1; have ca4 : w1.cell? ⟨w.heap.size + 1, 2, none⟩ = some (.int .i64 k.proto) := cell_to (by simp [go_sem]) hb1; have ca5 : w1.cell? ⟨w.heap.size + 1, 3, none⟩ = some (.int .i64 k.port) := cell_to (by simp [go_sem]) hb1)
          | (go_at_call 36; refine (pktRight_any k _).mono ?_; rw [HK.out]; rintro e w2 ⟨rfl, hb2⟩; obtain ⟨hc2, hf2⟩ := bcell hb2; have hz2 := hb_lt hb2; have cb0 := cell_to ca0 hb2; have cb1 := cell_to ca1 hb2; have cb2 := cell_to ca2 hb2; have cb3 := cell_to ca3 hb2; have cb4 := cell_to ca4 hb2; have cb5 := cell_to ca5 hb2))
        refine (mayGo_out c k _ _ _ _ _ (rdPods.to HP.out bel) (rdPols.to HQ.out bel) HC.out HK.out).mono ?_
        rintro e w3 ⟨rfl, hb3⟩; obtain ⟨hc3, hf3⟩ := bcell hb3; have hz3 := hb_lt hb3; have cc0 := cell_to cb0 hb3; have cc1 := cell_to cb1 hb3; have cc2 := cell_to cb2 hb3; have cc3 := cell_to cb3 hb3; have cc4 := cell_to cb4 hb3; have cc5 := cell_to cb5 hb3
        go_wp2_with fail
        refine (mayGo_in c k _ _ _ _ _ (rdPods.to HP.out bel) (rdPols.to HQ.out bel) HC.out HK.out).mono ?_
        rintro e w4 ⟨rfl, hb4⟩; obtain ⟨hc4, hf4⟩ := bcell hb4; have hz4 := hb_lt hb4
        go_wp2
        go_ret2
        exact ⟨by rw [HF.out]; rfl, bel⟩
  · have HF := hid (show allowed c k = (false, (right c).1) by rw [allowed, if_pos h0])
    have hn : ((right c).1 == 0) = false := by simp [h0]
    clear h0
    go_enter Tryz.func32, Tryz.ntmps32
    go_wp2_with (go_at_call 56; refine (right_any c _ _ _ _ _ (rdPods.to HP.out bel) (rdPols.to HQ.out bel) hpc).mono ?_; rintro e w1 ⟨rfl, hb1⟩; obtain ⟨hc1, hf1⟩ := bcell hb1; have hz1 := hb_lt hb1; have ca0 : w1.cell? ⟨w.heap.size, 0, none⟩ = some (.slice pa c.pods.length pc) := cell_to (by simp [go_sem]) hb1; have ca1 : w1.cell? ⟨w.heap.size, 1, none⟩ = some (.slice qa c.pols.length qc) := cell_to (by simp [go_sem]) hb1; have ca2 : w1.cell? ⟨w.heap.size + 1, 0, none⟩ = some (.int .i64 k.src) := cell_to (by simp [go_sem]) hb1; have ca3 : w1.cell? ⟨w.heap.size + 1, 1, none⟩ = some (.int .i64 k.dst) := cell_to (by simp [go_sem]) hb1; have ca4 : w1.cell? ⟨w.heap.size + 1, 2, none⟩ = some (.int .i64 k.proto) := cell_to (by simp [go_sem]) hb1; have ca5 : w1.cell? ⟨w.heap.size + 1, 3, none⟩ = some (.int .i64 k.port) := cell_to (by simp [go_sem]) hb1)
    go_ret2
    exact ⟨by rw [HF.out]; rfl, bel⟩
end Go.Proofs.YtmkjlhplgcifiaaGreat
namespace Go.Proofs.YtmkjlhplgcifiaaGreat
open Go.ChangeShapes Go.WideShapes Go.ChangeAt Go.RowKit
set_option linter.unusedVariables false
set_option linter.unusedSimpArgs false
attribute [local simp] World.cell?_grow World.cell?_alloc_there
attribute [local go_sem] World.cell?_grow World.cell?_alloc_there eqg_blk std_blk eqg_pod std_pod eqg_sel std_sel eqg_prt std_prt
attribute [local go_sem ↓] eql_blk eql_sel neq_sel eql_prt eql_pod met_in1 met_in2 met_re1 met_re2 met_has1 met_has2 met_bl1 met_bl2
def iPol (p : DPol) : Prop := i64 p.space ∧ i64 p.need ∧ i64 p.ban ∧ i64 p.ways ∧ (∀ r ∈ p.outs, iRule r) ∧ ∀ r ∈ p.ins, iRule r
theorem few_rules (l : List DRule) : few (mkRules l) 2 rulOk = true := by
  obtain ⟨h1, h2⟩ := mkRules_ok l
  simp only [few, Bool.and_eq_true, decide_eq_true_eq, List.all_eq_true]
  exact ⟨by omega, h1⟩
def iPod (p : DPod) : Prop := i64 p.host ∧ i64 p.ip ∧ i64 p.space ∧ i64 p.labels
def podsGood (l : List DPod) : Prop := l.length ≤ 8 ∧ ∀ i, podGood l i = true
theorem podsGood_snoc {xs : List DPod} {p : DPod} (h : podsGood xs) (hl : xs.length < 8) (hp : podOk p = true) (hn : ∀ q ∈ xs, q.ip ≠ p.ip) : podsGood (xs ++ [p]) := by
  refine ⟨by simp; omega, fun i => ?_⟩
  rcases Nat.lt_trichotomy i xs.length with hi | hi | hi
  · have := h.2 i
    simp only [podGood, List.getElem?_append_left hi, List.take_append_of_le_length (Nat.le_of_lt hi)] at this ⊢
    exact this
  · subst hi
    simp only [podGood, List.getElem?_append_right (Nat.le_refl _), Nat.sub_self, List.getElem?_cons_zero, List.take_left']
    simp only [hp, Bool.true_and, List.all_eq_true, decide_eq_true_eq]
    exact hn
  · simp [podGood, List.getElem?_eq_none (show (xs ++ [p]).length ≤ i by simp; omega)]
def iClu (c : DClu) : Prop := (∀ p ∈ c.pods, iPod p) ∧ ∀ q ∈ c.pols, iPol q
theorem right_good {c : DClu} (h1 : podsGood c.pods) (h2 : c.pols.length ≤ 4) (h3 : ∀ q ∈ c.pols, polOk q = true) : right c = (0, 0) := by
  refine right_ok (by have := h1.1; omega) (firstBad_none fun i _ => h1.2 i) (firstBad_none fun i _ => ?_)
  unfold polGood
  split
  · rfl
  · rename_i q hq
    exact h3 q (List.mem_of_getElem? hq)
end Go.Proofs.YtmkjlhplgcifiaaGreat
