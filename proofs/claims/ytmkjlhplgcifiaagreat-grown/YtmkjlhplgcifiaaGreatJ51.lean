/-
  palisadekeep: Grown: the policies, one of them anew, as they are read.
  palisadekeep: Grown: six cells stored in a row; the cluster as it is read at the end.
  palisadekeep: Grown: the stages of a policy that gets a rule more.
  A region that draws its order: the first operations, for which all of the others wait, by one law; then the others, in whatever order, by another.
-/
import Derived.Test.YtmkjlhplgcifiaaGreatJ50
import Derived.Test.YtmkjlhplgcifiaaGreatJ25
namespace Go.Proofs.YtmkjlhplgcifiaaGreat
open Go.ChangeShapes Go.WideShapes Go.ChangeAt Go.RowKit
attribute [local simp] World.cell?_grow
attribute [local go_sem] World.cell?_grow
attribute [local simp] World.cell?_alloc_there
attribute [local go_sem] World.cell?_alloc_there
attribute [local go_sem] eqg_blk std_blk eqg_pod std_pod eqg_sel std_sel eqg_prt std_prt
attribute [local go_sem ↓] eql_blk eql_sel neq_sel eql_prt eql_pod
attribute [local go_sem ↓] met_in1 met_in2 met_re1 met_re2
attribute [local go_sem ↓] met_has1 met_has2
attribute [local go_sem ↓] met_bl1 met_bl2
attribute [local go_sem] eqg_row std_row
attribute [local go_sem ↓] neq_row
set_option linter.unusedVariables false
set_option linter.unusedSimpArgs false
theorem zs_apart {zs : List QPol} (h : zs.Pairwise fun a b => a.hi ≤ b.lo) {i j : Nat} {x z : QPol} (hi : zs[i]? = some x) (hj : zs[j]? = some z) (hne : i ≠ j) : x.hi ≤ z.lo ∨ z.hi ≤ x.lo := by
  obtain ⟨h1, rfl⟩ := List.getElem?_eq_some_iff.1 hi
  obtain ⟨h2, rfl⟩ := List.getElem?_eq_some_iff.1 hj
  rw [List.pairwise_iff_getElem] at h
  rcases Nat.lt_or_ge i j with hl | hl
  · exact .inl (h i j h1 h2 hl)
  · exact .inr (h j i h2 h1 (by omega))
theorem gr_pols {wS F : World} {m gp j : Nat} {ys : List RPol} {zs : List QPol} {z : QPol} {y' : DPol} (hcell : ∀ i u, (ys.flatMap encPol)[i]? = some u → wS.cell? ⟨gp, i, none⟩ = some u) (hgp : gp < F.heap.size)
    (hzx : zs.map (·.x) = ys) (hzp : zs.Pairwise fun a b => a.hi ≤ b.lo) (hz : ∀ z ∈ zs, m ≤ z.lo ∧ z.hi ≤ wS.heap.size ∧ PolIn wS z.x z.lo z.mid z.hi ∧ (gp < z.lo ∨ z.hi ≤ gp)) (hj : zs[j]? = some z) (hS : wS.heap.size ≤ F.heap.size)
    (f1 : ∀ b, b < wS.heap.size → ¬ (z.lo ≤ b ∧ b < z.hi) → b ≠ gp → F.heap[b]? = wS.heap[b]?) (f2 : ∀ i t u, i ≠ j → t < 6 → wS.cell? ⟨gp, i * 6 + t, none⟩ = some u → F.cell? ⟨gp, i * 6 + t, none⟩ = some u) (f3 : ePol F.heap.size F gp (j * 6) y')
    (hl : ys.length ≤ 4) (hlens : ∀ y ∈ ys, y.d.outs.length ≤ 1000 ∧ y.d.ins.length ≤ 1000) : rdPols F.heap.size F (some ⟨gp, 0, none⟩) ((ys.map (·.d)).set j y') := by
  refine ⟨by rw [List.length_set, List.length_map]; omega, fun i x hx => ⟨gp, 0, rfl, hgp, ?_⟩⟩
  rw [Nat.zero_add]
  by_cases hij : j = i
  · subst hij
    rw [List.getElem?_set] at hx
    split at hx
    · split at hx
      · cases hx; exact f3
      · cases hx
    · rename_i h; exact absurd rfl h
  · rw [List.getElem?_set_ne hij, List.getElem?_map] at hx
    obtain ⟨y, hy, rfl⟩ := Option.map_eq_some_iff.1 hx
    have hzi : (zs.map (·.x))[i]? = some y := by rw [hzx]; exact hy
    rw [List.getElem?_map] at hzi
    obtain ⟨q, hq, rfl⟩ := Option.map_eq_some_iff.1 hzi
    obtain ⟨q1, q2, q3, q4⟩ := hz q (List.mem_of_getElem? hq)
    have hap := zs_apart hzp hq hj (fun e => hij e.symm)
    have hP : PolIn F q.x q.lo q.mid q.hi := q3.to fun b h1 h2 => f1 b (by omega) (by omega) (by omega)
    obtain ⟨p1, p2, p3, p4⟩ := hP
    have hln := hlens q.x (List.mem_of_getElem? hy)
    obtain ⟨oa, oc, eo, _, ro⟩ := p3.rd (H := fun _ => false) (by omega) hln.1 (fun _ _ _ => rfl)
    obtain ⟨ia, ic, ei, _, ri⟩ := p4.rd (H := fun _ => false) (by omega) hln.2 (fun _ _ _ => rfl)
    have hc : ∀ t u, (encPol q.x)[t]? = some u → F.cell? ⟨gp, i * 6 + t, none⟩ = some u := fun t u ht => by
      have ht6 : t < 6 := (List.getElem?_eq_some_iff.1 ht).1
      exact f2 i t u (fun e => hij e.symm) ht6 (hcell _ u ((oflat_get (k := 6) (enc := encPol) (fun _ => rfl) ys i q.x t hy ht6).trans ht))
    exact ⟨hc 0 _ rfl, hc 1 _ rfl, hc 2 _ rfl, hc 3 _ rfl, ⟨oa, oc, by rw [← eo]; exact hc 4 _ rfl, rdRules.sub (Sub.show _ _) (Nat.le_refl _) ro⟩, ia, ic, by rw [← ei]; exact hc 5 _ rfl, rdRules.sub (Sub.show _ _) (Nat.le_refl _) ri⟩
/-- a policy with a rule more, where there is room for it -/
def addRule (y : DPol) (r : DRule) (o i : Bool) : DPol := ⟨y.space, y.need, y.ban, y.ways, if o then y.outs ++ [r] else y.outs, if i then y.ins ++ [r] else y.ins⟩
theorem few_snoc {l : List DRule} {r : DRule} (h : few l 2 rulOk = true) (hr : rulOk r = true) (hl : l.length < 2) : few (l ++ [r]) 2 rulOk = true := by
  simp only [few, Bool.and_eq_true, decide_eq_true_eq, List.all_append, List.all_cons, List.all_nil, Bool.and_true, List.length_append, List.length_singleton] at h ⊢
  exact ⟨by omega, h.2, hr⟩
theorem addRule_ok {y : DPol} {r : DRule} {o i : Bool} (h : polOk y = true) (hr : rulOk r = true) (ho : o = true → y.ways % 2 = 1 ∧ y.outs.length < 2) (hi : i = true → y.ways / 2 = 1 ∧ y.ins.length < 2) : polOk (addRule y r o i) = true := by
  simp only [polOk, Bool.and_eq_true, rulesOk, Bool.or_eq_true, decide_eq_true_eq] at h ⊢
  obtain ⟨⟨⟨⟨h1, h2⟩, h3⟩, h4, h5⟩, h6, h7⟩ := h
  refine ⟨⟨⟨⟨h1, h2⟩, h3⟩, ?_⟩, ?_⟩
  · cases o
    · exact ⟨h4, h5⟩
    · exact ⟨few_snoc h4 hr (ho rfl).2, .inl (ho rfl).1⟩
  · cases i
    · exact ⟨h6, h7⟩
    · exact ⟨few_snoc h6 hr (hi rfl).2, .inl (hi rfl).1⟩
theorem addRule_lets {pods : List DPod} {y : DPol} {r : DRule} {o i : Bool} {way : Int} {k : DPkt} {far : Int} (h : letsGo pods way k far y = true) : letsGo pods way k far (addRule y r o i) = true := by
  unfold letsGo rulesOf at *
  rw [List.any_eq_true] at *
  obtain ⟨x, hx, h2⟩ := h
  refine ⟨x, ?_, h2⟩
  show x ∈ if way = 1 then (if o then y.outs ++ [r] else y.outs) else (if i then y.ins ++ [r] else y.ins)
  split
  · rename_i hw; rw [if_pos hw] at hx
    cases o
    · exact hx
    · exact List.mem_append_left _ hx
  · rename_i hw; rw [if_neg hw] at hx
    cases i
    · exact hx
    · exact List.mem_append_left _ hx
theorem no_pols {C : DClu} {k : DPkt} (h : C.pols.length = 0) : (may C 1 k k.src k.dst && may C 2 k k.dst k.src) = true := by
  have e : C.pols = [] := List.length_eq_zero_iff.1 h
  have hm : ∀ way near far, may C way k near far = true := fun way near far => by
    unfold may
    rw [e]
    cases podAt C.pods near <;> simp
  rw [hm, hm]; rfl
end Go.Proofs.YtmkjlhplgcifiaaGreat
namespace Go.Proofs.YtmkjlhplgcifiaaGreat
open Go.ChangeShapes Go.WideShapes Go.ChangeAt Go.RowKit
attribute [local simp] World.cell?_grow
attribute [local go_sem] World.cell?_grow
attribute [local simp] World.cell?_alloc_there
attribute [local go_sem] World.cell?_alloc_there
attribute [local go_sem] eqg_blk std_blk eqg_pod std_pod eqg_sel std_sel eqg_prt std_prt
attribute [local go_sem ↓] eql_blk eql_sel neq_sel eql_prt eql_pod
attribute [local go_sem ↓] met_in1 met_in2 met_re1 met_re2
attribute [local go_sem ↓] met_has1 met_has2
attribute [local go_sem ↓] met_bl1 met_bl2
attribute [local go_sem] eqg_row std_row
attribute [local go_sem ↓] neq_row
set_option linter.unusedVariables false
set_option linter.unusedSimpArgs false
abbrev put6 (w : World) (g o : Nat) (a0 a1 a2 a3 a4 a5 : Value) : World := (((((w.setCell ⟨g, o, none⟩ a0).setCell ⟨g, o + 1, none⟩ a1).setCell ⟨g, o + 2, none⟩ a2).setCell ⟨g, o + 3, none⟩ a3).setCell ⟨g, o + 4, none⟩ a4).setCell ⟨g, o + 5, none⟩ a5
theorem put6_far (w : World) (g o : Nat) (a0 a1 a2 a3 a4 a5 : Value) (b : Nat) (hb : b ≠ g) : (put6 w g o a0 a1 a2 a3 a4 a5).heap[b]? = w.heap[b]? := by
  unfold put6
  rw [Below.heap_setCell _ _ _ _ hb, Below.heap_setCell _ _ _ _ hb, Below.heap_setCell _ _ _ _ hb, Below.heap_setCell _ _ _ _ hb, Below.heap_setCell _ _ _ _ hb, Below.heap_setCell _ _ _ _ hb]
theorem put6_size (w : World) (g o : Nat) (a0 a1 a2 a3 a4 a5 : Value) : (put6 w g o a0 a1 a2 a3 a4 a5).heap.size = w.heap.size := by
  unfold put6
  simp only [World.size_setCell]
theorem put6_blk {w : World} {g o : Nat} {a0 a1 a2 a3 a4 a5 : Value} {cur : Array Value} {t : TypeId} (h : w.heap[g]? = some (.cells cur t (0, 0))) :
    (put6 w g o a0 a1 a2 a3 a4 a5).heap[g]? = some (.cells ((((((cur.setIfInBounds o a0).setIfInBounds (o + 1) a1).setIfInBounds (o + 2) a2).setIfInBounds (o + 3) a3).setIfInBounds (o + 4) a4).setIfInBounds (o + 5) a5) t (0, 0)) :=
  set_blk (set_blk (set_blk (set_blk (set_blk (set_blk h o a0) (o + 1) a1) (o + 2) a2) (o + 3) a3) (o + 4) a4) (o + 5) a5
theorem put6_out {w : World} {g o i : Nat} {a0 a1 a2 a3 a4 a5 : Value} {cur : Array Value} {t : TypeId} (h : w.heap[g]? = some (.cells cur t (0, 0))) (hi : i < o ∨ o + 6 ≤ i) : (put6 w g o a0 a1 a2 a3 a4 a5).cell? ⟨g, i, none⟩ = w.cell? ⟨g, i, none⟩ := by
  rw [blk_cell (put6_blk h), blk_cell h]
  rw [Array.getElem?_setIfInBounds_ne (by omega), Array.getElem?_setIfInBounds_ne (by omega), Array.getElem?_setIfInBounds_ne (by omega), Array.getElem?_setIfInBounds_ne (by omega), Array.getElem?_setIfInBounds_ne (by omega), Array.getElem?_setIfInBounds_ne (by omega)]
theorem put6_in {w : World} {g o : Nat} {a0 a1 a2 a3 a4 a5 : Value} {cur : Array Value} {t : TypeId} (h : w.heap[g]? = some (.cells cur t (0, 0))) (hs : o + 6 ≤ cur.size) :
    (put6 w g o a0 a1 a2 a3 a4 a5).cell? ⟨g, o, none⟩ = some a0 ∧ (put6 w g o a0 a1 a2 a3 a4 a5).cell? ⟨g, o + 1, none⟩ = some a1 ∧ (put6 w g o a0 a1 a2 a3 a4 a5).cell? ⟨g, o + 2, none⟩ = some a2 ∧ (put6 w g o a0 a1 a2 a3 a4 a5).cell? ⟨g, o + 3, none⟩ = some a3 ∧ (put6 w g o a0 a1 a2 a3 a4 a5).cell? ⟨g, o + 4, none⟩ = some a4 ∧ (put6 w g o a0 a1 a2 a3 a4 a5).cell? ⟨g, o + 5, none⟩ = some a5 := by
  have hb := put6_blk (o := o) (a0 := a0) (a1 := a1) (a2 := a2) (a3 := a3) (a4 := a4) (a5 := a5) h
  refine ⟨?_, ?_, ?_, ?_, ?_, ?_⟩ <;> (rw [blk_cell hb]; simp [Array.getElem?_setIfInBounds]; omega)
theorem put6_below {B : Nat} {w w' : World} {g o : Nat} {a0 a1 a2 a3 a4 a5 : Value} (h : Below B w w') (hg : B ≤ g) : Below B w (put6 w' g o a0 a1 a2 a3 a4 a5) :=
  (((((h.setCell hg _).setCell hg _).setCell hg _).setCell hg _).setCell hg _).setCell hg _
theorem xr_cells {w : World} {g : Nat} {xr : XRule} (h0 : w.cell? ⟨g, 0, none⟩ = some (.slice xr.pa xr.d.peers.length xr.pc)) (h1 : w.cell? ⟨g, 1, none⟩ = some (.slice xr.qa xr.d.ports.length xr.qc)) : ∀ j u, (encXRule xr)[j]? = some u → w.cell? ((⟨g, 0, none⟩ : Addr).add j) = some u := by
  intro j u hj
  rw [show ((⟨g, 0, none⟩ : Addr).add j) = ⟨g, j, none⟩ by unfold Addr.add; split <;> simp_all]
  have hj2 : j < 2 := (List.getElem?_eq_some_iff.1 hj).1
  match j, hj2 with
  | 0, _ => cases hj; exact h0
  | 1, _ => cases hj; exact h1
theorem encXRule_one (xr : XRule) : ∀ u ∈ encXRule xr, u.oneCell' = true := by
  intro u hu
  simp only [encXRule, List.mem_cons, List.not_mem_nil, or_false] at hu
  rcases hu with rfl | rfl <;> rfl
/-- the pods' list, where its block is as it was -/
theorem gr_pods {B m : Nat} {wS F : World} {a : Option Addr} {n : Nat} {l : List DPod} (h : UpPods B wS (.slice a l.length n) l) (hv : ∀ g, (Value.slice a l.length n).ownBlock = some g → g < m) (hl : l.length ≤ 8) (hF : ∀ b, b < wS.heap.size → b < m → F.heap[b]? = wS.heap[b]?) : rdPods F.heap.size F a l := by
  have ho : F.ownsRow B 54 4 (.slice a l.length n) l.length (l.flatMap encPod) := own_stay h.1 fun g hg => hF g (h.1.lt g hg).2 (hv g hg)
  obtain ⟨a', c', e, _, hr⟩ := own_pods ho (by omega)
  injection e with e1 e2 e3
  rw [e1]; exact hr
end Go.Proofs.YtmkjlhplgcifiaaGreat
namespace Go.Proofs.YtmkjlhplgcifiaaGreat
open Go.ChangeShapes Go.WideShapes Go.ChangeAt Go.RowKit
attribute [local simp] World.cell?_grow
attribute [local go_sem] World.cell?_grow
attribute [local simp] World.cell?_alloc_there
attribute [local go_sem] World.cell?_alloc_there
attribute [local go_sem] eqg_blk std_blk eqg_pod std_pod eqg_sel std_sel eqg_prt std_prt
attribute [local go_sem ↓] eql_blk eql_sel neq_sel eql_prt eql_pod
attribute [local go_sem ↓] met_in1 met_in2 met_re1 met_re2
attribute [local go_sem ↓] met_has1 met_has2
attribute [local go_sem ↓] met_bl1 met_bl2
attribute [local go_sem] eqg_row std_row
attribute [local go_sem ↓] neq_row
set_option linter.unusedVariables false
set_option linter.unusedSimpArgs false
/-- from one world to the next: what lies outside of the bounds, and outside of one block, is as it was -/
def Stg (yb lo hi : Nat) (W W' : World) : Prop := (W'.os = W.os ∧ W'.tape = W.tape ∧ W'.output = W.output ∧ W.heap.size ≤ W'.heap.size) ∧ ∀ b, b < W.heap.size → b ≠ yb → ¬ (lo ≤ b ∧ b < hi) → W'.heap[b]? = W.heap[b]?
theorem Stg.refl (yb lo hi : Nat) (W : World) : Stg yb lo hi W W := ⟨⟨rfl, rfl, rfl, Nat.le_refl _⟩, fun _ _ _ _ => rfl⟩
theorem Stg.app {yb lo hi : Nat} {W w7 : World} {v : Value} (i : Nat) (u : Value) (hg : W.grownBy w7 v.ownBlock) (hv : ∀ g, v.ownBlock = some g → lo ≤ g ∧ g < hi) : Stg yb lo hi W (w7.setCell ⟨yb, i, none⟩ u) :=
  ⟨⟨((Below.refl 0 w7).setCell (Nat.zero_le _) u).os.trans hg.os, ((Below.refl 0 w7).setCell (Nat.zero_le _) u).tape.trans hg.tape, ((Below.refl 0 w7).setCell (Nat.zero_le _) u).output.trans hg.output, by rw [World.size_setCell]; exact hg.size⟩, fun b h1 h2 h3 => (Below.heap_setCell _ _ _ _ h2).trans (hg.block b h1 (fun e => h3 (hv _ e.symm)))⟩
theorem Stg.below {yb lo hi B : Nat} {W W' : World} (h : Stg yb lo hi W W') (h1 : B ≤ yb) (h2 : B ≤ lo) (h3 : B ≤ W.heap.size) : Below B W W' := ⟨h.1.1, h.1.2.1, h.1.2.2.1, h.1.2.2.2, fun b hb => h.2 b (by omega) (by omega) (by omega)⟩
/-- a list of rules with one more -/
theorem gr_more {wS wR YB w7 : World} {v v7 vr : Value} {l : List DRule} {lo mid Mn yb i : Nat} {xs : List XRule} {xr : XRule} {H : Nat → Bool} {u : Value} (h1 : xs.map (·.d) = l) (h4 : ∀ y ∈ xs, NRule mid (hide wS (fun b => decide (b < lo) || decide (mid ≤ b) || decide (v.ownBlock = some b))) y)
    (hbS : ∀ b, lo ≤ b → b < mid → YB.heap[b]? = wS.heap[b]?) (hbR : ∀ b, Mn ≤ b → b < wR.heap.size → YB.heap[b]? = wR.heap[b]?) (hs : wR.heap.size ≤ YB.heap.size) (hmid : mid ≤ wR.heap.size) (hMn : mid ≤ Mn) (ho : YB.ownsRow lo 64 2 v xs.length (xs.flatMap encXRule)) (h3 : ∀ g, v.ownBlock = some g → g < mid)
    (hnr : NRule wR.heap.size (hide wR (lowOr Mn vr)) xr) (hg : YB.grownBy w7 v.ownBlock) (ho7 : w7.ownsRow lo 64 2 v7 (xs.length + 1) (xs.flatMap encXRule ++ encXRule xr)) (ha : v7.ownBlock = v.ownBlock ∨ v7.ownBlock = some YB.heap.size) (hl : l.length ≤ 1000)
    (hH : ∀ b, lo ≤ b → b < mid → H b = false) (hHn : ∀ b, Mn ≤ b → b < wR.heap.size → H b = false) (hHy : H YB.heap.size = false) (hHb : H yb = true) :
    ∃ a c, v7 = .slice a (l ++ [xr.d]).length c ∧ (l ++ [xr.d]).length ≤ c ∧ ∀ F, (∀ b, b < w7.heap.size → H b = false → F.heap[b]? = (w7.setCell ⟨yb, i, none⟩ u).heap[b]?) → w7.heap.size ≤ F.heap.size → rdRules F.heap.size F a (l ++ [xr.d]) := by
  have hg7 := hg.size
  obtain ⟨a, c, e1, e2, e3⟩ := RulIn.more (w := YB) (H := H) (mid := mid) h1 ho h3 (fun y hy => NRule.mono _ _ _ _ y (Sub.hide fun b hb hG => ⟨hG, by
      simp only [Bool.or_eq_false_iff, decide_eq_false_iff_not] at hG
      exact hbS b (by omega) (by omega)⟩) (Nat.le_refl _) (h4 y hy))
    (NRule.mono _ _ _ _ xr (Sub.hide fun b hb hG => by
      obtain ⟨g1, g2⟩ := lowOr_false.1 hG
      exact ⟨hHn b g1 hb, (hg.block b (by omega) (fun e => by have := h3 b e.symm; omega)).trans (hbR b g1 hb)⟩) (by omega) hnr) (by omega) ho7 hg ha hl hH hHy
  refine ⟨a, c, e1, e2, fun F hF hFs => rd_more e3 hFs fun b hb hHf => (hF b hb hHf).trans (Below.heap_setCell _ _ _ _ (fun e => ?_))⟩
  have e : b = yb := e
  rw [e, hHb] at hHf; cases hHf
/-- a list of rules as it was -/
theorem gr_same {wS YB : World} {v : Value} {l : List DRule} {lo mid : Nat} {a : Option Addr} {c : Nat} (h : RulIn wS v l lo mid) (hv : v = .slice a l.length c) (hbS : ∀ b, lo ≤ b → b < mid → YB.heap[b]? = wS.heap[b]?) (hm : mid ≤ YB.heap.size) (hl : l.length ≤ 1000) (F : World) (hF : ∀ b, lo ≤ b → b < mid → F.heap[b]? = YB.heap[b]?) (hFs : YB.heap.size ≤ F.heap.size) : rdRules F.heap.size F a l := by
  have h2 : RulIn F v l lo mid := h.to fun b h1 h2 => (hF b h1 h2).trans (hbS b h1 h2)
  obtain ⟨a', c', e, _, hr⟩ := h2.rd (H := fun _ => false) (by omega) hl (fun _ _ _ => rfl)
  rw [hv] at e
  injection e with e1 _ _
  rw [e1]; exact rdRules.sub (Sub.show _ _) (Nat.le_refl _) hr
end Go.Proofs.YtmkjlhplgcifiaaGreat
namespace Go
section
variable {P : Program} {ops : Array Oper} {md : Region.Mode} {S : World → Prop}
end
end Go
