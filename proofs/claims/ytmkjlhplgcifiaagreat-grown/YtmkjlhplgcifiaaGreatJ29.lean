/-
  palisade.Allowed: the whole of P4.
  palisadekeep: what its functions make of raw data: right ones.
-/
import Derived.Test.YtmkjlhplgcifiaaGreatJ14
import Derived.Test.YtmkjlhplgcifiaaGreatJ28
import Derived.Test.YtmkjlhplgcifiaaGreatJ24
namespace Go.Proofs.YtmkjlhplgcifiaaGreat
open Go.ChangeShapes Go.WideShapes Go.ChangeAt Go.RowKit
attribute [local simp] World.cell?_grow
attribute [local go_sem] World.cell?_grow
attribute [local simp] World.cell?_alloc_there
attribute [local go_sem] World.cell?_alloc_there
attribute [local go_sem] eqg_blk std_blk eqg_pod std_pod eqg_sel std_sel eqg_prt std_prt
attribute [local go_sem ↓] eql_blk eql_sel neq_sel eql_prt eql_pod
attribute [local go_sem ↓] met_in1 met_in2 met_re1 met_re2
attribute [local go_sem ↓] met_has1 met_has2
set_option linter.unusedVariables false
set_option linter.unusedSimpArgs false
theorem firstBad_none' {good : Nat → Bool} {n : Nat} (h : firstBad good n = none) : ∀ j, j < n → good j = true := by
  unfold firstBad at h
  rw [List.find?_eq_none] at h
  intro j hj
  have := h j (List.mem_range.2 hj)
  simpa using this
theorem right_zero {c : DClu} (h : (right c).1 = 0) : cluOk c := by
  unfold right at h
  split at h
  · cases h
  · cases h1 : firstBad (podGood c.pods) c.pods.length with
    | some i => rw [h1] at h; cases h
    | none =>
      rw [h1] at h
      cases h2 : firstBad (polGood c.pols) c.pols.length with
      | some i => simp only [h2] at h; cases h
      | none =>
        have g1 := firstBad_none' h1
        have g2 := firstBad_none' h2
        refine ⟨⟨fun p hp => ?_, ?_⟩, fun q hq => ?_⟩
        · obtain ⟨j, hj, rfl⟩ := List.getElem_of_mem hp
          have := g1 j hj
          rw [podGood_some (List.getElem?_eq_getElem hj), Bool.and_eq_true] at this
          exact this.1
        · rw [List.pairwise_iff_getElem]
          intro i j hi hj hij he
          have := g1 j hj
          rw [podGood, List.getElem?_eq_getElem hj] at this
          simp only [Bool.and_eq_true, List.all_eq_true] at this
          have h3 := this.2 c.pods[i] (List.mem_take_iff_getElem.2 ⟨i, by omega, rfl⟩)
          simp [he] at h3
        · obtain ⟨j, hj, rfl⟩ := List.getElem_of_mem hq
          have := g2 j hj
          rwa [polGood_some (List.getElem?_eq_getElem hj)] at this
set_option maxHeartbeats 4000000 in
theorem allowed_any (c : DClu) (k : DPkt) (pa qa : Option Addr) (pc qc : Nat) (w : World) (hp : rdPods w.heap.size w pa c.pods) (hq : rdPols w.heap.size w qa c.pols) (hpc : c.pods.length ≤ pc) :
    Calls Tryz.prog 32 #[.agg #[.slice pa c.pods.length pc, .slice qa c.pols.length qc], .agg #[.int .i64 k.src, .int .i64 k.dst, .int .i64 k.proto, .int .i64 k.port]] w
      fun e w' => e = .returned (.tuple #[.bool (allowed c k).1, .int .i64 (allowed c k).2]) ∧ Below w.heap.size w w' := by
  have HP := hid hp
  have HQ := hid hq
  clear hp hq
  by_cases h0 : (right c).1 = 0
  · have HC := hid (right_zero h0)
    have HE := hid h0
    cases hk : pktOk k
    · have HF := hid (show allowed c k = (false, 4) by rw [allowed, if_neg (by simp [h0]), if_pos hk])
      have HK := hid hk
      clear h0
      go_enter Tryz.func32, Tryz.ntmps32
      go_wp2_with (first
        | (go_at_call 56; refine (right_any c _ _ _ _ _ (rdPods.to HP.out (by repeat (first | exact Below.refl _ _ | assumption | apply Ext.alloc | apply Ext.drewN | apply Ext.drew | refine Ext.trans ?_ (by assumption)))) (rdPols.to HQ.out (by repeat (first | exact Below.refl _ _ | assumption | apply Ext.alloc | apply Ext.drewN | apply Ext.drew | refine Ext.trans ?_ (by assumption)))) hpc).mono ?_; rw [HE.out]; rintro e w1 ⟨rfl, hb1⟩; obtain ⟨hc1, hf1⟩ := bcell hb1; have hz1 := hb_lt hb1; have ca0 : w1.cell? ⟨w.heap.size, 0, none⟩ = some (.slice pa c.pods.length pc) := cell_to (by simp [go_sem]) hb1; have ca1 : w1.cell? ⟨w.heap.size, 1, none⟩ = some (.slice qa c.pols.length qc) := cell_to (by simp [go_sem]) hb1; have ca2 : w1.cell? ⟨w.heap.size + 1, 0, none⟩ = some (.int .i64 k.src) := cell_to (by simp [go_sem]) hb1; have ca3 : w1.cell? ⟨w.heap.size + 1, 1, none⟩ = some (.int .i64 k.dst) := cell_to (by simp [go_sem]) hb1; have ca4 : w1.cell? ⟨w.heap.size + 1, 2, none⟩ = some (.int .i64 k.proto) := cell_to (by simp [go_sem]) hb1; have ca5 : w1.cell? ⟨w.heap.size + 1, 3, none⟩ = some (.int .i64 k.port) := cell_to (by simp [go_sem]) hb1)
        | (go_at_call 36; refine (pktRight_any k _).mono ?_; rw [HK.out]; rintro e w2 ⟨rfl, hb2⟩; obtain ⟨hc2, hf2⟩ := bcell hb2; have hz2 := hb_lt hb2; have cb0 := cell_to ca0 hb2; have cb1 := cell_to ca1 hb2; have cb2 := cell_to ca2 hb2; have cb3 := cell_to ca3 hb2; have cb4 := cell_to ca4 hb2; have cb5 := cell_to ca5 hb2))
      go_ret2
      exact ⟨by rw [HF.out]; rfl, (by repeat (first | exact Below.refl _ _ | assumption | apply Ext.alloc | apply Ext.drewN | apply Ext.drew | refine Ext.trans ?_ (by assumption)))⟩
    · have HK := hid hk
      cases hm : may c 1 k k.src k.dst
      · have HF := hid (show allowed c k = (false, 0) by rw [allowed, if_neg (by simp [h0]), if_neg (by simp [hk]), hm]; rfl)
        clear h0
        go_enter Tryz.func32, Tryz.ntmps32
        go_wp2_with (first
          | (go_at_call 56; refine (right_any c _ _ _ _ _ (rdPods.to HP.out (by repeat (first | exact Below.refl _ _ | assumption | apply Ext.alloc | apply Ext.drewN | apply Ext.drew | refine Ext.trans ?_ (by assumption)))) (rdPols.to HQ.out (by repeat (first | exact Below.refl _ _ | assumption | apply Ext.alloc | apply Ext.drewN | apply Ext.drew | refine Ext.trans ?_ (by assumption)))) hpc).mono ?_; rw [HE.out]; rintro e w1 ⟨rfl, hb1⟩; obtain ⟨hc1, hf1⟩ := bcell hb1; have hz1 := hb_lt hb1; have ca0 : w1.cell? ⟨w.heap.size, 0, none⟩ = some (.slice pa c.pods.length pc) := cell_to (by simp [go_sem]) hb1; have ca1 : w1.cell? ⟨w.heap.size, 1, none⟩ = some (.slice qa c.pols.length qc) := cell_to (by simp [go_sem]) hb1; have ca2 : w1.cell? ⟨w.heap.size + 1, 0, none⟩ = some (.int .i64 k.src) := cell_to (by simp [go_sem]) hb1; have ca3 : w1.cell? ⟨w.heap.size + 1, 1, none⟩ = some (.int .i64 k.dst) := cell_to (by simp [go_sem]) hb1; have ca4 : w1.cell? ⟨w.heap.size + 1, 2, none⟩ = some (.int .i64 k.proto) := cell_to (by simp [go_sem]) hb1; have ca5 : w1.cell? ⟨w.heap.size + 1, 3, none⟩ = some (.int .i64 k.port) := cell_to (by simp [go_sem]) hb1)
          | (go_at_call 36; refine (pktRight_any k _).mono ?_; rw [HK.out]; rintro e w2 ⟨rfl, hb2⟩; obtain ⟨hc2, hf2⟩ := bcell hb2; have hz2 := hb_lt hb2; have cb0 := cell_to ca0 hb2; have cb1 := cell_to ca1 hb2; have cb2 := cell_to ca2 hb2; have cb3 := cell_to ca3 hb2; have cb4 := cell_to ca4 hb2; have cb5 := cell_to ca5 hb2)
          | (go_at_call 57; refine (mayGo_out c k _ _ _ _ _ (rdPods.to HP.out (by repeat (first | exact Below.refl _ _ | assumption | apply Ext.alloc | apply Ext.drewN | apply Ext.drew | refine Ext.trans ?_ (by assumption)))) (rdPols.to HQ.out (by repeat (first | exact Below.refl _ _ | assumption | apply Ext.alloc | apply Ext.drewN | apply Ext.drew | refine Ext.trans ?_ (by assumption)))) HC.out HK.out).mono ?_; rintro e w3 ⟨rfl, hb3⟩; obtain ⟨hc3, hf3⟩ := bcell hb3; have hz3 := hb_lt hb3; have cc0 := cell_to cb0 hb3; have cc1 := cell_to cb1 hb3; have cc2 := cell_to cb2 hb3; have cc3 := cell_to cb3 hb3; have cc4 := cell_to cb4 hb3; have cc5 := cell_to cb5 hb3))
        go_ret2
        exact ⟨by rw [HF.out]; rfl, (by repeat (first | exact Below.refl _ _ | assumption | apply Ext.alloc | apply Ext.drewN | apply Ext.drew | refine Ext.trans ?_ (by assumption)))⟩
      · have HF := hid (show allowed c k = (may c 2 k k.dst k.src, 0) by rw [allowed, if_neg (by simp [h0]), if_neg (by simp [hk]), hm]; rfl)
        clear h0
        go_enter Tryz.func32, Tryz.ntmps32
        go_wp2_with (first
          | (go_at_call 56; refine (right_any c _ _ _ _ _ (rdPods.to HP.out (by repeat (first | exact Below.refl _ _ | assumption | apply Ext.alloc | apply Ext.drewN | apply Ext.drew | refine Ext.trans ?_ (by assumption)))) (rdPols.to HQ.out (by repeat (first | exact Below.refl _ _ | assumption | apply Ext.alloc | apply Ext.drewN | apply Ext.drew | refine Ext.trans ?_ (by assumption)))) hpc).mono ?_; rw [HE.out]; rintro e w1 ⟨rfl, hb1⟩; obtain ⟨hc1, hf1⟩ := bcell hb1; have hz1 := hb_lt hb1; have ca0 : w1.cell? ⟨w.heap.size, 0, none⟩ = some (.slice pa c.pods.length pc) := cell_to (by simp [go_sem]) hb1; have ca1 : w1.cell? ⟨w.heap.size, 1, none⟩ = some (.slice qa c.pols.length qc) := cell_to (by simp [go_sem]) hb1; have ca2 : w1.cell? ⟨w.heap.size + 1, 0, none⟩ = some (.int .i64 k.src) := cell_to (by simp [go_sem]) hb1; have ca3 : w1.cell? ⟨w.heap.size + 1, 1, none⟩ = some (.int .i64 k.dst) := cell_to (by simp [go_sem]) hb1; have ca4 : w1.cell? ⟨w.heap.size + 1, 2, none⟩ = some (.int .i64 k.proto) := cell_to (by simp [go_sem]) hb1; have ca5 : w1.cell? ⟨w.heap.size + 1, 3, none⟩ = some (.int .i64 k.port) := cell_to (by simp [go_sem]) hb1)
          | (go_at_call 36; refine (pktRight_any k _).mono ?_; rw [HK.out]; rintro e w2 ⟨rfl, hb2⟩; obtain ⟨hc2, hf2⟩ := bcell hb2; have hz2 := hb_lt hb2; have cb0 := cell_to ca0 hb2; have cb1 := cell_to ca1 hb2; have cb2 := cell_to ca2 hb2; have cb3 := cell_to ca3 hb2; have cb4 := cell_to ca4 hb2; have cb5 := cell_to ca5 hb2))
        refine (mayGo_out c k _ _ _ _ _ (rdPods.to HP.out (by repeat (first | exact Below.refl _ _ | assumption | apply Ext.alloc | apply Ext.drewN | apply Ext.drew | refine Ext.trans ?_ (by assumption)))) (rdPols.to HQ.out (by repeat (first | exact Below.refl _ _ | assumption | apply Ext.alloc | apply Ext.drewN | apply Ext.drew | refine Ext.trans ?_ (by assumption)))) HC.out HK.out).mono ?_
        rintro e w3 ⟨rfl, hb3⟩; obtain ⟨hc3, hf3⟩ := bcell hb3; have hz3 := hb_lt hb3; have cc0 := cell_to cb0 hb3; have cc1 := cell_to cb1 hb3; have cc2 := cell_to cb2 hb3; have cc3 := cell_to cb3 hb3; have cc4 := cell_to cb4 hb3; have cc5 := cell_to cb5 hb3
        go_wp2_with fail
        refine (mayGo_in c k _ _ _ _ _ (rdPods.to HP.out (by repeat (first | exact Below.refl _ _ | assumption | apply Ext.alloc | apply Ext.drewN | apply Ext.drew | refine Ext.trans ?_ (by assumption)))) (rdPols.to HQ.out (by repeat (first | exact Below.refl _ _ | assumption | apply Ext.alloc | apply Ext.drewN | apply Ext.drew | refine Ext.trans ?_ (by assumption)))) HC.out HK.out).mono ?_
        rintro e w4 ⟨rfl, hb4⟩; obtain ⟨hc4, hf4⟩ := bcell hb4; have hz4 := hb_lt hb4
        go_wp2
        go_ret2
        exact ⟨by rw [HF.out]; rfl, (by repeat (first | exact Below.refl _ _ | assumption | apply Ext.alloc | apply Ext.drewN | apply Ext.drew | refine Ext.trans ?_ (by assumption)))⟩
  · have HF := hid (show allowed c k = (false, (right c).1) by rw [allowed, if_pos h0])
    have hn : ((right c).1 == 0) = false := by simp [h0]
    clear h0
    go_enter Tryz.func32, Tryz.ntmps32
    go_wp2_with (go_at_call 56; refine (right_any c _ _ _ _ _ (rdPods.to HP.out (by repeat (first | exact Below.refl _ _ | assumption | apply Ext.alloc | apply Ext.drewN | apply Ext.drew | refine Ext.trans ?_ (by assumption)))) (rdPols.to HQ.out (by repeat (first | exact Below.refl _ _ | assumption | apply Ext.alloc | apply Ext.drewN | apply Ext.drew | refine Ext.trans ?_ (by assumption)))) hpc).mono ?_; rintro e w1 ⟨rfl, hb1⟩; obtain ⟨hc1, hf1⟩ := bcell hb1; have hz1 := hb_lt hb1; have ca0 : w1.cell? ⟨w.heap.size, 0, none⟩ = some (.slice pa c.pods.length pc) := cell_to (by simp [go_sem]) hb1; have ca1 : w1.cell? ⟨w.heap.size, 1, none⟩ = some (.slice qa c.pols.length qc) := cell_to (by simp [go_sem]) hb1; have ca2 : w1.cell? ⟨w.heap.size + 1, 0, none⟩ = some (.int .i64 k.src) := cell_to (by simp [go_sem]) hb1; have ca3 : w1.cell? ⟨w.heap.size + 1, 1, none⟩ = some (.int .i64 k.dst) := cell_to (by simp [go_sem]) hb1; have ca4 : w1.cell? ⟨w.heap.size + 1, 2, none⟩ = some (.int .i64 k.proto) := cell_to (by simp [go_sem]) hb1; have ca5 : w1.cell? ⟨w.heap.size + 1, 3, none⟩ = some (.int .i64 k.port) := cell_to (by simp [go_sem]) hb1)
    go_ret2
    exact ⟨by rw [HF.out]; rfl, (by repeat (first | exact Below.refl _ _ | assumption | apply Ext.alloc | apply Ext.drewN | apply Ext.drew | refine Ext.trans ?_ (by assumption)))⟩
end Go.Proofs.YtmkjlhplgcifiaaGreat
namespace Go.Proofs.YtmkjlhplgcifiaaGreat
open Go.ChangeShapes Go.WideShapes Go.ChangeAt Go.RowKit
attribute [local simp] World.cell?_grow
attribute [local go_sem] World.cell?_grow
attribute [local simp] World.cell?_alloc_there
attribute [local go_sem] World.cell?_alloc_there
attribute [local go_sem] eqg_blk std_blk eqg_pod std_pod eqg_sel std_sel eqg_prt std_prt
attribute [local go_sem ↓] eql_blk eql_sel neq_sel eql_prt eql_pod
attribute [local go_sem ↓] met_in1 met_in2 met_re1 met_re2
attribute [local go_sem ↓] met_has1 met_has2
attribute [local go_sem ↓] met_bl1 met_bl2
set_option linter.unusedVariables false
set_option linter.unusedSimpArgs false
theorem i64_wrap (n : Int) : i64 (wrap64 n) := by unfold i64 wrap64; omega
def mkWays (n : Int) : Int := 1 + pk (wrap64 (n - 1)) 3
theorem mkWays_in (n : Int) : mkWays n = 1 ∨ mkWays n = 2 ∨ mkWays n = 3 := by
  have h := pk_in (c := wrap64 (n - 1)) (n := 3) (by decide)
  unfold mkWays; omega
/-- a right policy of a raw one -/
def mkPol (p : DPol) : DPol := ⟨pk p.space 4, pk p.need 256, pk p.ban 256, mkWays p.ways, if mkWays p.ways % 2 = 1 then mkRules p.outs else [], if mkWays p.ways / 2 = 1 then mkRules p.ins else []⟩
def iPol (p : DPol) : Prop := i64 p.space ∧ i64 p.need ∧ i64 p.ban ∧ i64 p.ways ∧ (∀ r ∈ p.outs, iRule r) ∧ ∀ r ∈ p.ins, iRule r
theorem few_rules (l : List DRule) : few (mkRules l) 2 rulOk = true := by
  obtain ⟨h1, h2⟩ := mkRules_ok l
  simp only [few, Bool.and_eq_true, decide_eq_true_eq, List.all_eq_true]
  exact ⟨by omega, h1⟩
theorem mkPol_ok (p : DPol) : polOk (mkPol p) = true := by
  have h1 := pk_in (c := p.space) (n := 4) (by decide)
  have h2 := pk_in (c := p.need) (n := 256) (by decide)
  have h3 := pk_in (c := p.ban) (n := 256) (by decide)
  have a1 := few_rules p.outs
  have a2 := few_rules p.ins
  have e0 : few ([] : List DRule) 2 rulOk = true := rfl
  have b1 : btw (pk p.space 4) 0 3 = true := by simp [btw]; omega
  have b2 : selOk (pk p.need 256) (pk p.ban 256) = true := by simp [selOk, btw]; omega
  rcases mkWays_in p.ways with h | h | h <;> simp [mkPol, polOk, b1, b2, rulesOk, h, a1, a2, e0] <;> rfl
theorem btw_of {n lo hi : Int} (h1 : lo ≤ n) (h2 : n ≤ hi) : btw n lo hi = true := by simp [btw, h1, h2]
def iPod (p : DPod) : Prop := i64 p.host ∧ i64 p.ip ∧ i64 p.space ∧ i64 p.labels
def mkPod (p : DPod) : DPod := ⟨pk p.host 4, pk p.ip 4294967296, pk p.space 4, pk p.labels 256⟩
theorem mkPod_ok (p : DPod) : podOk (mkPod p) = true := by
  have h1 := pk_in (c := p.host) (n := 4) (by decide)
  have h2 := pk_in (c := p.ip) (n := 4294967296) (by decide)
  have h3 := pk_in (c := p.space) (n := 4) (by decide)
  have h4 := pk_in (c := p.labels) (n := 256) (by decide)
  have b1 := btw_of (n := pk p.host 4) (lo := 0) (hi := 3) h1.1 (by omega)
  have b2 := btw_of (n := pk p.ip 4294967296) (lo := 0) (hi := 4294967295) h2.1 (by omega)
  have b3 := btw_of (n := pk p.space 4) (lo := 0) (hi := 3) h3.1 (by omega)
  have b4 := btw_of (n := pk p.labels 256) (lo := 0) (hi := 255) h4.1 (by omega)
  simp only [mkPod, podOk, b1, b2, b3, b4, Bool.and_self]
/-- a pod more, if there is room and none with its address -/
def addPod (xs : List DPod) (p : DPod) : List DPod := if xs.length < 8 ∧ ixOf xs (mkPod p).ip < 0 then xs ++ [mkPod p] else xs
def mkPods (l : List DPod) : List DPod := l.foldl addPod []
theorem ix_neg {l : List DPod} {ip : Int} (h : ixOf l ip < 0) : ∀ q ∈ l, q.ip ≠ ip := by
  intro q hq he
  cases hp : podAt l ip with
  | none =>
    have := List.find?_eq_none.1 hp q hq
    simp [he] at this
  | some p =>
    obtain ⟨k, _, hk⟩ := podAt_ix hp
    omega
def podsGood (l : List DPod) : Prop := l.length ≤ 8 ∧ ∀ i, podGood l i = true
theorem podsGood_nil : podsGood [] := ⟨by simp, fun i => by simp [podGood]⟩
theorem podsGood_snoc {xs : List DPod} {p : DPod} (h : podsGood xs) (hl : xs.length < 8) (hp : podOk p = true) (hn : ∀ q ∈ xs, q.ip ≠ p.ip) : podsGood (xs ++ [p]) := by
  refine ⟨by simp; omega, fun i => ?_⟩
  rcases Nat.lt_trichotomy i xs.length with hi | hi | hi
  · have := h.2 i
    simp only [podGood, List.getElem?_append_left hi, List.take_append_of_le_length (Nat.le_of_lt hi)] at this ⊢
    exact this
  · subst hi
    simp only [podGood, List.getElem?_append_right (Nat.le_refl _), Nat.sub_self, List.getElem?_cons_zero, List.take_left']
    simp only [hp, Bool.true_and, List.all_eq_true, decide_eq_true_eq]
    exact hn
  · simp [podGood, List.getElem?_eq_none (show (xs ++ [p]).length ≤ i by simp; omega)]
theorem addPod_good {xs : List DPod} (h : podsGood xs) (p : DPod) : podsGood (addPod xs p) := by
  unfold addPod
  split
  · rename_i hc
    exact podsGood_snoc h hc.1 (mkPod_ok p) (ix_neg hc.2)
  · exact h
theorem foldPods_good : ∀ (l : List DPod) (xs : List DPod), podsGood xs → podsGood (l.foldl addPod xs)
  | [], xs, h => h
  | p :: l, xs, h => foldPods_good l _ (addPod_good h p)
theorem mkPods_good (l : List DPod) : podsGood (mkPods l) := foldPods_good l [] podsGood_nil
theorem foldPods_full : ∀ (l : List DPod) (xs : List DPod), 8 ≤ xs.length → l.foldl addPod xs = xs
  | [], xs, h => rfl
  | p :: l, xs, h => by
    rw [List.foldl_cons, addPod, if_neg (by omega)]
    exact foldPods_full l xs h
theorem mkPods_take {l : List DPod} {k : Nat} (h : 8 ≤ ((l.take k).foldl addPod []).length) : (l.take k).foldl addPod [] = mkPods l := by
  rw [mkPods]
  conv => rhs; rw [← List.take_append_drop k l, List.foldl_append]
  exact (foldPods_full _ _ h).symm
theorem fold_snoc {l : List DPod} {k : Nat} {p : DPod} (h : l[k]? = some p) : (l.take (k + 1)).foldl addPod [] = addPod ((l.take k).foldl addPod []) p := by
  rw [List.take_add_one, h, Option.toList_some, List.foldl_append]; rfl
def mkClu (c : DClu) : DClu := ⟨mkPods c.pods, (c.pols.take 4).map mkPol⟩
def iClu (c : DClu) : Prop := (∀ p ∈ c.pods, iPod p) ∧ ∀ q ∈ c.pols, iPol q
theorem right_good {c : DClu} (h1 : podsGood c.pods) (h2 : c.pols.length ≤ 4) (h3 : ∀ q ∈ c.pols, polOk q = true) : right c = (0, 0) := by
  refine right_ok (by have := h1.1; omega) (firstBad_none fun i _ => h1.2 i) (firstBad_none fun i _ => ?_)
  unfold polGood
  split
  · rfl
  · rename_i q hq
    exact h3 q (List.mem_of_getElem? hq)
theorem mkClu_right (c : DClu) : right (mkClu c) = (0, 0) := by
  refine right_good (mkPods_good _) (by simp [mkClu]; omega) fun q hq => ?_
  simp only [mkClu, List.mem_map] at hq
  obtain ⟨x, _, rfl⟩ := hq
  exact mkPol_ok x
end Go.Proofs.YtmkjlhplgcifiaaGreat
