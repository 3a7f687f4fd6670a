/-
  palisadekeep: Followed: a cluster and tables of it, while both change.
  A region that draws its order: the first operations, for which all of the others wait, by one law; then the others, in whatever order, by another.
-/
import Derived.Test.YtmkjlhplgcifiaaGreatK26
import Derived.Test.YtmkjlhplgcifiaaGreatK27
import Derived.Test.YtmkjlhplgcifiaaGreatK29
import Derived.Test.YtmkjlhplgcifiaaGreatK33
import Derived.Test.YtmkjlhplgcifiaaGreatK20
namespace Go.Proofs.YtmkjlhplgcifiaaGreat
open Go.ChangeShapes Go.WideShapes Go.ChangeAt Go.RowKit
attribute [local simp] World.cell?_grow
attribute [local go_sem] World.cell?_grow
attribute [local simp] World.cell?_alloc_there
attribute [local go_sem] World.cell?_alloc_there
attribute [local go_sem] eqg_blk std_blk eqg_pod std_pod eqg_sel std_sel eqg_prt std_prt
attribute [local go_sem ↓] eql_blk eql_sel neq_sel eql_prt eql_pod
attribute [local go_sem ↓] met_in1 met_in2 met_re1 met_re2
attribute [local go_sem ↓] met_has1 met_has2
attribute [local go_sem ↓] met_bl1 met_bl2
attribute [local go_sem] eqg_row std_row
attribute [local go_sem ↓] neq_row
set_option linter.unusedVariables false
set_option linter.unusedSimpArgs false
/-- the two blocks that are written again: the tables', the cluster's own -/
def gF (tb cb : Nat) : Nat → Bool := fun b => decide (b = tb) || decide (b = cb)
theorem gF_false {tb cb b : Nat} : gF tb cb b = false ↔ b ≠ tb ∧ b ≠ cb := by simp [gF]
theorem gF_tb (tb cb : Nat) : gF tb cb tb = true := by simp [gF]
def Fst (tb cb : Nat) (C : DClu) (pa qa : Option Addr) (pc qc : Nat) (w : World) : Prop :=
  ((right C).1 = 0 ∧ C.pods.length ≤ pc ∧ C.pols.length ≤ qc ∧ tb ≠ cb) ∧ w.heap[cb]? = some (.cells #[.slice pa C.pods.length pc, .slice qa C.pols.length qc] 28 (0, 0)) ∧ rdPods w.heap.size (hide w (gF tb cb)) pa C.pods ∧ rdPols w.heap.size (hide w (gF tb cb)) qa C.pols ∧
    ∃ u0 u1 u2, w.heap[tb]? = some (.cells #[u0, u1, u2] 94 (0, 0)) ∧ TabC w.heap.size (hide w (gF tb cb)) u0 u1 u2 C
/-- what else there was is as it was -/
def Ffr (tb cb : Nat) (w0 w : World) : Prop := (w.os = w0.os ∧ w.tape = w0.tape ∧ w.output = w0.output ∧ w0.heap.size ≤ w.heap.size) ∧ ∀ b, b < w0.heap.size → b ≠ tb → b ≠ cb → w.heap[b]? = w0.heap[b]?
theorem Ffr.refl (tb cb : Nat) (w : World) : Ffr tb cb w w := ⟨⟨rfl, rfl, rfl, Nat.le_refl _⟩, fun _ _ _ _ => rfl⟩
theorem Ffr.trans {tb cb : Nat} {a b c : World} (h : Ffr tb cb a b) (k : Ffr tb cb b c) : Ffr tb cb a c :=
  ⟨⟨k.1.1.trans h.1.1, k.1.2.1.trans h.1.2.1, k.1.2.2.1.trans h.1.2.2.1, Nat.le_trans h.1.2.2.2 k.1.2.2.2⟩, fun i hi h1 h2 => (k.2 i (Nat.lt_of_lt_of_le hi h.1.2.2.2) h1 h2).trans (h.2 i hi h1 h2)⟩
theorem Ffr.below {tb cb : Nat} {w w' : World} (h : Below w.heap.size w w') : Ffr tb cb w w' := ⟨⟨h.os, h.tape, h.output, h.size⟩, fun b hb _ _ => h.block b hb⟩
theorem Ffr.gb {tb cb : Nat} {w w' : World} (h : w.grownBy w' (some tb)) : Ffr tb cb w w' := ⟨⟨h.os, h.tape, h.output, h.size⟩, fun b hb h1 _ => h.block b hb (fun e => by cases e; exact h1 rfl)⟩
theorem Ffr.set (tb cb : Nat) (w : World) (i : Nat) (v : Value) : Ffr tb cb w (w.setCell ⟨cb, i, none⟩ v) :=
  ⟨⟨((Below.refl 0 w).setCell (Nat.zero_le _) v).os, ((Below.refl 0 w).setCell (Nat.zero_le _) v).tape, ((Below.refl 0 w).setCell (Nat.zero_le _) v).output, by rw [World.size_setCell]; exact Nat.le_refl _⟩, fun b hb _ h2 => Below.heap_setCell _ _ _ _ h2⟩
theorem Ffr.sub {tb cb : Nat} {w w' : World} (h : Ffr tb cb w w') : Sub (hide w (gF tb cb)) (hide w' (gF tb cb)) := Sub.hide fun b hb hG => ⟨hG, h.2 b hb (gF_false.1 hG).1 (gF_false.1 hG).2⟩
theorem Ffr.bsub {tb cb : Nat} {w w' : World} (h : Ffr tb cb w w') : BSub (hide w (gF tb cb)) (hide w' (gF tb cb)) := BSub.hide fun b hb hG => ⟨hG, h.2 b hb (gF_false.1 hG).1 (gF_false.1 hG).2⟩
theorem Ffr.under {tb cb B : Nat} {w w' : World} (h : Ffr tb cb w w') (h1 : B ≤ tb) (h2 : B ≤ cb) (h3 : B ≤ w.heap.size) : Below B w w' := ⟨h.1.1, h.1.2.1, h.1.2.2.1, h.1.2.2.2, fun b hb => h.2 b (by omega) (by omega) (by omega)⟩
theorem Fst.below {tb cb : Nat} {C : DClu} {pa qa : Option Addr} {pc qc : Nat} {w w' : World} (h : Fst tb cb C pa qa pc qc w) (hb : Below w.heap.size w w') : Fst tb cb C pa qa pc qc w' := by
  obtain ⟨h1, h2, h3, h4, u0, u1, u2, h5, h6⟩ := h
  have hf := Ffr.below (tb := tb) (cb := cb) hb
  exact ⟨h1, (hb.block cb (Array.getElem?_eq_some_iff.1 h2).1).trans h2, rdPods.sub hf.sub hb.size h3, rdPols.sub hf.sub hb.size h4, u0, u1, u2, (hb.block tb (Array.getElem?_eq_some_iff.1 h5).1).trans h5, h6.sub hf.bsub hb.size⟩
/-- both lists anew -/
theorem Fst.less {tb cb : Nat} {C D : DClu} {pa qa : Option Addr} {pc qc : Nat} {w w' : World} {e : Ending} (h : Fst tb cb C pa qa pc qc w) (hr : (right D).1 = 0) (hf : FwOk (gF tb cb) tb D w e w') :
    ∃ va vc wa wc, e = .returned (.tuple #[.agg #[.slice va D.pods.length vc, .slice wa D.pols.length wc], .bool true]) ∧ w'.heap[cb]? = some (.cells #[.slice pa C.pods.length pc, .slice qa C.pols.length qc] 28 (0, 0)) ∧ w.grownBy w' (some tb) ∧
      Fst tb cb D va wa vc wc ((w'.setCell ⟨cb, 0, none⟩ (.slice va D.pods.length vc)).setCell ⟨cb, 1, none⟩ (.slice wa D.pols.length wc)) := by
  obtain ⟨⟨_, _, _, hne⟩, h2, _⟩ := h
  obtain ⟨va, vc, wa, wc, u0, u1, u2, he, ⟨c1, c2⟩, r1, r2, t1, t2, hg⟩ := hf
  have hcb := (hg.block cb (Array.getElem?_eq_some_iff.1 h2).1 (fun e => by cases e; exact hne rfl)).trans h2
  have hF := (Ffr.set tb cb w' 0 (.slice va D.pods.length vc)).trans (Ffr.set tb cb _ 1 (.slice wa D.pols.length wc))
  refine ⟨va, vc, wa, wc, he, hcb, hg, ⟨hr, c1, c2, hne⟩, (set_blk (set_blk hcb 0 _) 1 _).trans rfl, rdPods.sub hF.sub hF.1.2.2.2 r1, rdPols.sub hF.sub hF.1.2.2.2 r2, u0, u1, u2, ?_, t2.sub hF.bsub hF.1.2.2.2⟩
  exact (Below.heap_setCell _ _ _ _ hne).trans ((Below.heap_setCell _ _ _ _ hne).trans t1)
/-- tables after a change, where the two blocks are hidden -/
theorem tab_hide {tb cb : Nat} {D : DClu} {u0 u1 u2 : Value} {w w5 w7 : World} (ht : TabC w5.heap.size (hide w5 (low w.heap.size)) u0 u1 u2 D) (htb : tb < w.heap.size) (hcb : cb < w.heap.size) (hb : Below w5.heap.size w5 w7) : TabC w7.heap.size (hide w7 (gF tb cb)) u0 u1 u2 D :=
  ht.sub (BSub.hide fun b hl hG => ⟨gF_false.2 (by have := low_false.1 hG; omega), hb.block b hl⟩) hb.size
/-- a pod more -/
theorem Fst.pod {tb cb : Nat} {C : DClu} {L : List DPod} {pa qa va : Option Addr} {pc qc vc : Nat} {w w5 w7 : World} (h : Fst tb cb C pa qa pc qc w) (hr : (right ⟨L, C.pols⟩).1 = 0) (hc : Chg tb ⟨L, C.pols⟩ w w5) (hb : Below w5.heap.size w5 w7) (ho : w7.ownsRow w5.heap.size 54 4 (.slice va L.length vc) L.length (L.flatMap encPod)) (hv : L.length ≤ vc) :
    Fst tb cb ⟨L, C.pols⟩ va qa vc qc (w7.setCell ⟨cb, 0, none⟩ (.slice va L.length vc)) ∧ Ffr tb cb w (w7.setCell ⟨cb, 0, none⟩ (.slice va L.length vc)) := by
  obtain ⟨⟨_, c1, c2, hne⟩, h2, h3, h4, v0, v1, v2, h5, h6⟩ := h
  obtain ⟨⟨u0, u1, u2, t1, t2⟩, hg⟩ := hc.1 hr
  have hcl := (Array.getElem?_eq_some_iff.1 h2).1
  have htl := (Array.getElem?_eq_some_iff.1 h5).1
  have hgs := hg.size
  have hbs := hb.size
  have hF := Ffr.set tb cb w7 0 (.slice va L.length vc)
  have hW7 : Ffr tb cb w w7 := (Ffr.gb hg).trans (Ffr.below hb)
  have hcb : w7.heap[cb]? = _ := (hb.block cb (by omega)).trans ((hg.block cb hcl (fun e => by cases e; exact hne rfl)).trans h2)
  have hoh := own_hidden (G := gF tb cb) ho (fun b hG => by
    have : b = tb ∨ b = cb := by simpa [gF] using hG
    omega)
  obtain ⟨a', c', e', _, hrd⟩ := own_pods hoh (by have := (right_lens hr).1; simp only at this; omega)
  injection e' with e1 e2 e3
  subst e1
  rw [hide_size] at hrd
  exact ⟨⟨⟨hr, hv, c2, hne⟩, (set_blk hcb 0 _).trans rfl, rdPods.sub hF.sub hF.1.2.2.2 hrd, rdPols.sub (hW7.trans hF).sub (hW7.trans hF).1.2.2.2 h4, u0, u1, u2, (Below.heap_setCell _ _ _ _ hne).trans ((hb.block tb (by omega)).trans t1), (tab_hide t2 htl hcl hb).sub hF.bsub hF.1.2.2.2⟩, hW7.trans hF⟩
/-- a policy more -/
theorem Fst.pol {tb cb : Nat} {C : DClu} {L : List DPol} {R : List RPol} {pa qa va : Option Addr} {pc qc vc : Nat} {w w5 w7 : World} (h : Fst tb cb C pa qa pc qc w) (hr : (right ⟨C.pods, L⟩).1 = 0) (hc : Chg tb ⟨C.pods, L⟩ w w5) (hb : Below w5.heap.size w5 w7) (hR : R.map (·.d) = L) (hok : ∀ r ∈ R, r.ok w.heap.size (hide w (gF tb cb))) (ho : w7.ownsRow w5.heap.size 59 6 (.slice va L.length vc) R.length (R.flatMap encPol)) (hv : L.length ≤ vc) :
    Fst tb cb ⟨C.pods, L⟩ pa va pc vc (w7.setCell ⟨cb, 1, none⟩ (.slice va L.length vc)) ∧ Ffr tb cb w (w7.setCell ⟨cb, 1, none⟩ (.slice va L.length vc)) := by
  obtain ⟨⟨_, c1, c2, hne⟩, h2, h3, h4, v0, v1, v2, h5, h6⟩ := h
  obtain ⟨⟨u0, u1, u2, t1, t2⟩, hg⟩ := hc.1 hr
  have hcl := (Array.getElem?_eq_some_iff.1 h2).1
  have htl := (Array.getElem?_eq_some_iff.1 h5).1
  have hgs := hg.size
  have hbs := hb.size
  have hF := Ffr.set tb cb w7 1 (.slice va L.length vc)
  have hW7 : Ffr tb cb w w7 := (Ffr.gb hg).trans (Ffr.below hb)
  have hcb : w7.heap[cb]? = _ := (hb.block cb (by omega)).trans ((hg.block cb hcl (fun e => by cases e; exact hne rfl)).trans h2)
  have hoh := own_hidden (G := gF tb cb) ho (fun b hG => by
    have : b = tb ∨ b = cb := by simpa [gF] using hG
    omega)
  have hbH : Below (hide w (gF tb cb)).heap.size (hide w (gF tb cb)) (hide w7 (gF tb cb)) := by
    refine ⟨hW7.1.1, hW7.1.2.1, hW7.1.2.2.1, by rw [hide_size, hide_size]; exact hW7.1.2.2.2, fun b hl => ?_⟩
    rw [hide_size] at hl
    have h7 : b < w7.heap.size := Nat.lt_of_lt_of_le hl hW7.1.2.2.2
    cases e : gF tb cb b
    · rw [hide_block _ _ _ e, hide_block _ _ _ e]; exact hW7.2 b hl (gF_false.1 e).1 (gF_false.1 e).2
    · simp [hide, Array.getElem?_mapIdx, e, hl, h7]
  have hRl : R.length = L.length := by rw [← hR, List.length_map]
  obtain ⟨a', c', e', _, hrd⟩ := own_pols (w0 := hide w (gF tb cb)) hoh (by have := (right_lens hr).2; simp only at this; omega) hbH (by rw [hide_size]; exact hok)
  injection e' with e1 e2 e3
  subst e1
  rw [hide_size, hR] at hrd
  exact ⟨⟨⟨hr, c1, hv, hne⟩, (set_blk hcb 1 _).trans rfl, rdPods.sub (hW7.trans hF).sub (hW7.trans hF).1.2.2.2 h3, rdPols.sub hF.sub hF.1.2.2.2 hrd, u0, u1, u2, (Below.heap_setCell _ _ _ _ hne).trans ((hb.block tb (by omega)).trans t1), (tab_hide t2 htl hcl hb).sub hF.bsub hF.1.2.2.2⟩, hW7.trans hF⟩
/-- a change that is refused -/
theorem Fst.keep {tb cb : Nat} {C D : DClu} {pa qa : Option Addr} {pc qc : Nat} {w w5 : World} (h : Fst tb cb C pa qa pc qc w) (hr : ¬ (right D).1 = 0) (hc : Chg tb D w w5) : Fst tb cb C pa qa pc qc w5 ∧ Ffr tb cb w w5 := ⟨h.below (hc.2 hr), Ffr.below (hc.2 hr)⟩
end Go.Proofs.YtmkjlhplgcifiaaGreat
namespace Go
section
variable {P : Program} {ops : Array Oper} {md : Region.Mode} {S : World → Prop}
def tailC (md : Region.Mode) (ops : Array Oper) (n : Nat) : Bool :=
  ((List.range n).all fun k => ((ops[k]?).map fun o => o.guard.isNone && o.after.all fun e => !Region.binds md e || decide (e.on < k)).getD false) &&
  ((List.range n).all fun k => (List.range (n + 1)).any fun j => decide (k < j) && onTo md ops j k) &&
  ((List.range ops.size).all fun j => decide (j ≤ n) || (List.range j).any fun i => decide (n ≤ i) && onTo md ops j i) && decide (n ≤ ops.size)
theorem wpAny_of_prefix2 {Q1 : Act → World → Prop} {Q' : Exit → Act → World → Prop} {n m : Nat} (hT : tailC md ops n = true) (Lt : Array Bool) (hLt : TailRel n ops.size (Array.replicate n true) Lt)
    (htail : ∀ a w, Q1 a w → wpAny P md ops Q' m Lt a w) :
    ∀ (fuel : Nat) (l1 L : Array Bool) (a : Act) (w : World), TailRel n ops.size l1 L → (∀ k o, k < n → ops[k]? = some o → l1[k]? = some true → ∀ e ∈ o.after, Region.binds md e = true → l1[e.on]? = some true) →
      wpAny P md (ops.extract 0 n) (endBy Q1 Q') fuel l1 a w → wpAny P md ops Q' (fuel + m) L a w := by
  simp only [tailC, Bool.and_eq_true, List.all_eq_true, List.mem_range, List.any_eq_true, decide_eq_true_eq, Bool.or_eq_true] at hT
  obtain ⟨⟨⟨h1, h2⟩, h3⟩, h4⟩ := hT
  have hx : ∀ k, k < n → (ops.extract 0 n)[k]? = ops[k]? := fun k hk => by
    rw [Array.getElem?_extract]; simp; omega
  have hback : ∀ k o, k < n → ops[k]? = some o → o.guard = none ∧ ∀ e ∈ o.after, Region.binds md e = true → e.on < k := fun k o hk ho => by
    have := h1 k hk
    simp only [ho, Option.map_some, Option.getD_some, Bool.and_eq_true, Option.isNone_iff_eq_none, Array.all_eq_true_iff_forall_mem, Bool.or_eq_true, decide_eq_true_eq] at this
    exact ⟨this.1, fun e he hb => (this.2 e he).resolve_left (by simp [hb])⟩
  -- none is ready: all have come up
  have hdone : ∀ l1 : Array Bool, l1.size = n → Region.ready md (ops.extract 0 n) l1 = [] → l1 = Array.replicate n true := fun l1 hs hr => by
    have hall : ∀ k, k < n → l1[k]? = some true := by
      intro k
      induction k using Nat.strongRecOn with
      | ind k ih =>
        intro hk
        cases hb : l1[k]? with
        | none => rw [Array.getElem?_eq_none_iff] at hb; omega
        | some b =>
          cases b with
          | true => rfl
          | false =>
            obtain ⟨o, ho⟩ : ∃ o, ops[k]? = some o := ⟨ops[k], by simp⟩
            have : k ∈ Region.ready md (ops.extract 0 n) l1 := mem_ready.2 ⟨getD_of_some hb _, o, by rw [hx k hk]; exact ho, fun e he hbd => getD_of_some (ih e.on ((hback k o hk ho).2 e he hbd) (by have := (hback k o hk ho).2 e he hbd; omega)) _⟩
            rw [hr] at this; cases this
    apply Array.ext_getElem?
    intro k
    rcases Nat.lt_or_ge k n with h | h
    · rw [hall k h]; simp [h]
    · rw [Array.getElem?_eq_none (by omega), Array.getElem?_eq_none (by simp; omega)]
  have hLeq : ∀ l1 L : Array Bool, TailRel n ops.size l1 L → l1 = Array.replicate n true → L = Lt := fun l1 L hR he => by
    subst he
    apply Array.ext_getElem?
    intro k
    rcases Nat.lt_or_ge k n with h | h
    · rw [hR.lo k h, hLt.lo k h]
    · rcases Nat.lt_or_ge k ops.size with h' | h'
      · rw [hR.hi k h h', hLt.hi k h h']
      · rw [Array.getElem?_eq_none (by rw [hR.s2]; exact h'), Array.getElem?_eq_none (by rw [hLt.s2]; exact h')]
  -- a later one that is ready: all have come up
  have hlate : ∀ (l1 L : Array Bool), TailRel n ops.size l1 L → (∀ k o, k < n → ops[k]? = some o → l1[k]? = some true → ∀ e ∈ o.after, Region.binds md e = true → l1[e.on]? = some true) →
      ∀ j ∈ Region.ready md ops L, n ≤ j → l1 = Array.replicate n true := fun l1 L hR hcl j hj hn => by
    obtain ⟨hj0, oj, hoj, hja⟩ := mem_ready.1 hj
    have hjs : j < ops.size := (Array.getElem?_eq_some_iff.1 hoj).1
    have hjn : j = n := by
      rcases h3 j hjs with h | ⟨i, hij, hni, h⟩
      · omega
      · obtain ⟨o, ho, e, he, hb, hon⟩ := onTo_spec h
        rw [hoj] at ho; cases ho
        have h5 := some_of_getD (hja e he hb)
        rw [hon, hR.hi i hni (by omega)] at h5
        cases h5
    subst hjn
    have hall : ∀ d k, k + d = j → d ≠ 0 → l1[k]? = some true := by
      intro d
      induction d using Nat.strongRecOn with
      | ind d ih =>
        intro k hkd hd0
        obtain ⟨i, hi, hki, hon⟩ := h2 k (by omega)
        obtain ⟨o, ho, e, he, hb, hk⟩ := onTo_spec hon
        rcases Nat.lt_or_ge i j with hlt | hge
        · have := hcl i o hlt ho (ih (j - i) (by omega) i (by omega) (by omega)) e he hb
          rwa [hk] at this
        · have : i = j := by omega
          subst this
          rw [hoj] at ho; cases ho
          have h5 := some_of_getD (hja e he hb)
          rw [hk, hR.lo k (by omega)] at h5
          exact h5
    apply Array.ext_getElem?
    intro k
    rcases Nat.lt_or_ge k j with h | h
    · rw [hall (j - k) k (by omega) (by omega)]; simp [h]
    · rw [Array.getElem?_eq_none (by rw [hR.s1]; exact h), Array.getElem?_eq_none (by simp; omega)]
  intro fuel
  induction fuel with
  | zero =>
    intro l1 L a w hR hcl h
    rw [Nat.zero_add, hLeq l1 L hR (hdone l1 hR.s1 h.1)]
    exact htail a w h.2
  | succ fuel ih =>
    intro l1 L a w hR hcl h
    by_cases he : l1 = Array.replicate n true
    · have hr : Region.ready md (ops.extract 0 n) l1 = [] := by
        apply List.eq_nil_iff_forall_not_mem.2
        intro k hk
        obtain ⟨h0, o, ho, _⟩ := mem_ready.1 hk
        have hkn : k < n := by have := (Array.getElem?_eq_some_iff.1 ho).1; simp at this; omega
        have := false_of_getD h0
        rw [he] at this
        simp [hkn] at this
      rw [hLeq l1 L hR he]
      exact wpAny_mores _ _ _ _ _ (htail a w (h.1 hr))
    · rw [Nat.succ_add]
      refine ⟨fun hr => ?_, fun i hi => ?_⟩
      · exfalso
        refine he (hdone l1 hR.s1 ?_)
        apply List.eq_nil_iff_forall_not_mem.2
        intro k hk
        obtain ⟨h0, o, ho, hal⟩ := mem_ready.1 hk
        have hkn : k < n := by have := (Array.getElem?_eq_some_iff.1 ho).1; simp at this; omega
        rw [hx k hkn] at ho
        have : k ∈ Region.ready md ops L := mem_ready.2 ⟨getD_of_some (by rw [hR.lo k hkn]; exact false_of_getD h0) _, o, ho, fun e he hb => getD_of_some (by rw [hR.lo e.on (by have := (hback k o hkn ho).2 e he hb; omega)]; exact some_of_getD (hal e he hb)) _⟩
        rw [hr] at this; cases this
      · have hin : i < n := by
          rcases Nat.lt_or_ge i n with h' | h'
          · exact h'
          · exact absurd (hlate l1 L hR hcl i hi h') he
        obtain ⟨h0, o, ho, hal⟩ := mem_ready.1 hi
        have hi1 : i ∈ Region.ready md (ops.extract 0 n) l1 := mem_ready.2 ⟨getD_of_some (by rw [← hR.lo i hin]; exact false_of_getD h0) _, o, by rw [hx i hin]; exact ho, fun e he hb => getD_of_some (by rw [← hR.lo e.on (by have := (hback i o hin ho).2 e he hb; omega)]; exact some_of_getD (hal e he hb)) _⟩
        have hR' : TailRel n ops.size (l1.setIfInBounds i true) (L.setIfInBounds i true) := by
          refine ⟨by simp [hR.s1], by simp [hR.s2], fun k hk => ?_, fun k hk hk' => ?_⟩
          · rw [Array.getElem?_setIfInBounds, Array.getElem?_setIfInBounds, hR.lo k hk, hR.s1, hR.s2]
            by_cases hik : i = k
            · subst hik; simp [hin, Nat.lt_of_lt_of_le hin h4]
            · simp [hik]
          · rw [Array.getElem?_setIfInBounds_ne (by omega)]; exact hR.hi k hk hk'
        have hcl' : ∀ k o, k < n → ops[k]? = some o → (l1.setIfInBounds i true)[k]? = some true → ∀ e ∈ o.after, Region.binds md e = true → (l1.setIfInBounds i true)[e.on]? = some true := by
          intro k o' hk ho' hkl e he' hb
          have hor : l1[e.on]? = some true := by
            by_cases hik : i = k
            · subst hik
              rw [ho] at ho'; cases ho'
              have h5 := some_of_getD (hal e he' hb)
              rwa [hR.lo e.on (by have := (hback i o hin ho).2 e he' hb; omega)] at h5
            · rw [Array.getElem?_setIfInBounds_ne hik] at hkl
              exact hcl k o' hk ho' hkl e he' hb
          by_cases hie : i = e.on
          · subst hie; rw [Array.getElem?_setIfInBounds_self]; simp [hR.s1, hin]
          · rw [Array.getElem?_setIfInBounds_ne hie]; exact hor
        have hq := wpOp_endBy (wpOp_mono (fun a' w' h' => ih _ _ a' w' hR' hcl' h') (h.2 i hi1))
        unfold wpOp at hq ⊢
        rw [hx i hin] at hq
        simp only [ho] at hq ⊢
        have hg := (hback i o hin ho).1
        simpa [Region.wanted, hg] using hq
theorem wp_region_held_then {id : Nat} {Q : Exit → Act → World → Prop} {a : Act} {w : World} {l : List Oper} (n : Nat) (hm : P.follows .mixedOrders = true)
    (hT : tailC .any l.toArray n = true)
    (h : wpAnyH P .any (l.take n).toArray (endBy (fun a' w' => wpAny P .any l.toArray Q (l.length - n) (Array.replicate n true ++ Array.replicate (l.length - n) false) a' w') Q) S n (Array.replicate n false) a w.drew) : (Code.region id l.toArray true).wp P Q a w := by
  have hn : n ≤ l.length := by simp only [tailC, Bool.and_eq_true, decide_eq_true_eq] at hT; simpa using hT.2
  refine wp_region_any hm ?_
  have hx : l.toArray.extract 0 n = (l.take n).toArray := by simp
  have e := wpAny_of_prefix2 (P := P) (Q' := Q) (md := .any) (ops := l.toArray) (Q1 := fun a' w' => wpAny P .any l.toArray Q (l.length - n) (Array.replicate n true ++ Array.replicate (l.length - n) false) a' w') (n := n) (m := l.length - n) hT (Array.replicate n true ++ Array.replicate (l.length - n) false)
    ⟨by simp, by simp; omega, fun k hk => by rw [Array.getElem?_append_left (by simpa using hk)], fun k hk hk' => by
      rw [Array.getElem?_append_right (by simpa using hk), Array.getElem?_replicate, if_pos (by simp at hk' ⊢; omega)]⟩
    (fun a' w' hQ1 => hQ1)
    n (Array.replicate n false) (Array.replicate l.toArray.size false) a { w with drawn := w.drawn + 1 }
    ⟨by simp, by simp, fun k hk => by rw [Array.getElem?_replicate, Array.getElem?_replicate, if_pos (by simp; omega), if_pos hk], fun k hk hk' => by rw [Array.getElem?_replicate, if_pos hk']⟩
    (fun k o hk _ hkl => by simp [hk] at hkl)
    (by rw [hx]; exact wpAny_of_held _ _ _ _ h)
  have hs : n + (l.length - n) = l.toArray.size := by simp; omega
  rwa [hs] at e
end
end Go
