/-
  palisade: AddPolicy, DropPolicy.
  palisade: DropPolicy.
-/
import Derived.Test.YtmkjlhplgcifiaaGreatK22
namespace Go.Proofs.YtmkjlhplgcifiaaGreat
open Go.ChangeShapes Go.WideShapes Go.ChangeAt Go.RowKit
attribute [local simp] World.cell?_grow
attribute [local go_sem] World.cell?_grow
attribute [local simp] World.cell?_alloc_there
attribute [local go_sem] World.cell?_alloc_there
attribute [local go_sem] eqg_blk std_blk eqg_pod std_pod eqg_sel std_sel eqg_prt std_prt
attribute [local go_sem ↓] eql_blk eql_sel neq_sel eql_prt eql_pod
attribute [local go_sem ↓] met_in1 met_in2 met_re1 met_re2
attribute [local go_sem ↓] met_has1 met_has2
attribute [local go_sem ↓] met_bl1 met_bl2
attribute [local go_sem] eqg_row std_row
attribute [local go_sem ↓] neq_row
set_option linter.unusedVariables false
set_option linter.unusedSimpArgs false
theorem list_at {α β : Type} {l : List α} (Q : Nat → α → β → Prop) (h : ∀ i x, l[i]? = some x → ∃ y, Q i x y) : ∃ m : List β, m.length = l.length ∧ ∀ i y, m[i]? = some y → ∃ x, l[i]? = some x ∧ Q i x y := by
  induction l generalizing Q with
  | nil => exact ⟨[], rfl, fun i y hy => by simp at hy⟩
  | cons x l ih =>
    obtain ⟨y, hy⟩ := h 0 x rfl
    obtain ⟨m, hm, hq⟩ := ih (fun i x y => Q (i + 1) x y) (fun i x hx => h (i + 1) x hx)
    refine ⟨y :: m, by simp [hm], fun i z hz => ?_⟩
    cases i with
    | zero => cases hz; exact ⟨x, rfl, hy⟩
    | succ i => obtain ⟨x', h1, h2⟩ := hq i z (by simpa using hz); exact ⟨x', by simpa using h1, h2⟩
/-- policies that are read, by their cells -/
theorem pols_cells {B : Nat} {w : World} {a : Option Addr} {l : List DPol} (h : rdPols B w a l) : ∃ R : List RPol, R.map (·.d) = l ∧ RdSl B w 6 80 (eCells encPol) a R ∧ ∀ r ∈ R, r.ok B w := by
  obtain ⟨R, hl, hR⟩ := list_at (l := l) (fun i x (r : RPol) => r.d = x ∧ r.ok B w ∧ ∃ b off, a = some ⟨b, off, none⟩ ∧ b < B ∧ eCells encPol B w b (off + i * 6) r) fun i x hx => by
    obtain ⟨b, off, e, hb, h0, h1, h2, h3, ⟨oa, oc, h4, h5⟩, ia, ic, h6, h7⟩ := h.2 i x hx
    refine ⟨⟨x, .slice oa x.outs.length oc, .slice ia x.ins.length ic⟩, rfl, ⟨⟨oa, oc, rfl, h5⟩, ia, ic, rfl, h7⟩, b, off, e, hb, fun j u hj => ?_⟩
    have hj6 : j < 6 := (List.getElem?_eq_some_iff.1 hj).1
    match j, hj6 with
    | 0, _ => cases hj; exact h0
    | 1, _ => cases hj; exact h1
    | 2, _ => cases hj; exact h2
    | 3, _ => cases hj; exact h3
    | 4, _ => cases hj; exact h4
    | 5, _ => cases hj; exact h6
  refine ⟨R, ?_, ⟨by rw [hl]; exact h.1, fun i r hr => ?_⟩, fun r hr => ?_⟩
  · refine List.ext_getElem? fun i => ?_
    rw [List.getElem?_map]
    cases hr : R[i]? with
    | none => rw [List.getElem?_eq_none_iff] at hr; rw [hl] at hr; rw [List.getElem?_eq_none hr]; rfl
    | some r => obtain ⟨x, h1, h2, _⟩ := hR i r hr; rw [h1]; simp [h2]
  · obtain ⟨x, _, _, _, b, off, e, hb, h2⟩ := hR i r hr
    exact ⟨b, off, e, hb, h2⟩
  · obtain ⟨i, hi⟩ := List.mem_iff_getElem?.1 hr
    obtain ⟨x, _, _, h2, _⟩ := hR i r hi
    exact h2
theorem encPols_ones {B : Nat} {w : World} {R : List RPol} (h : ∀ r ∈ R, r.ok B w) : ∀ u ∈ R.flatMap encPol, u.oneCell' = true := by
  intro u hu
  obtain ⟨r, hr, hx⟩ := List.mem_flatMap.1 hu
  obtain ⟨⟨oa, oc, ho, _⟩, ia, ic, hi, _⟩ := h r hr
  simp only [encPol, ho, hi, List.mem_cons, List.not_mem_nil, or_false] at hx
  rcases hx with rfl | rfl | rfl | rfl | rfl | rfl <;> rfl
theorem pol_cells {B : Nat} {w : World} {b : Nat} {p : DPol} {vo vi : Value} (p0 : w.cell? ⟨b, 0, none⟩ = some (.int .i64 p.space)) (p1 : w.cell? ⟨b, 1, none⟩ = some (.int .i64 p.need)) (p2 : w.cell? ⟨b, 2, none⟩ = some (.int .i64 p.ban)) (p3 : w.cell? ⟨b, 3, none⟩ = some (.int .i64 p.ways)) (p4 : w.cell? ⟨b, 4, none⟩ = some vo) (p5 : w.cell? ⟨b, 5, none⟩ = some vi) : eCells encPol B w b 0 ⟨p, vo, vi⟩ := fun j u hj => by
  rw [Nat.zero_add]
  have hj6 : j < 6 := (List.getElem?_eq_some_iff.1 hj).1
  match j, hj6 with
  | 0, _ => cases hj; exact p0
  | 1, _ => cases hj; exact p1
  | 2, _ => cases hj; exact p2
  | 3, _ => cases hj; exact p3
  | 4, _ => cases hj; exact p4
  | 5, _ => cases hj; exact p5
theorem follow_len (c : DClu) (tb : Nat) (x0 x1 x2 : Value) (pa qa : Option Addr) (pc qc m n : Nat) (w : World) (hm : c.pods.length = m) (hn : c.pols.length = n) (ht : w.heap[tb]? = some (.cells #[x0, x1, x2] 94 (0, 0))) (hp : rdPods w.heap.size w pa c.pods) (hq : rdPols w.heap.size w qa c.pols) (hpc : c.pods.length ≤ pc) :
    Calls Tryz.prog 46 #[.pointer (some ⟨tb, 0, none⟩), .agg #[.slice pa m pc, .slice qa n qc]] w fun e w' => e = .returned (.int .i64 (right c).1) ∧ Chg tb c w w' := by
  subst hm hn; exact follow_any c tb x0 x1 x2 pa qa pc qc w ht hp hq hpc
set_option maxRecDepth 100000 in
set_option maxHeartbeats 4000000 in
theorem addPol_any (p : DPol) (oa ia : Option Addr) (oc ic : Nat) (tb : Nat) (u2 : Value) (c : DClu) (pa qa : Option Addr) (pc qc : Nat) (w : World) (ht : w.heap[tb]? = some (.cells #[.slice pa c.pods.length pc, .slice qa c.pols.length qc, u2] 94 (0, 0))) (hp : rdPods w.heap.size w pa c.pods) (hq : rdPols w.heap.size w qa c.pols) (hpc : c.pods.length ≤ pc) (hqc : c.pols.length ≤ qc) (hr : (right c).1 = 0) (ho : rdRules w.heap.size w oa p.outs) (hi : rdRules w.heap.size w ia p.ins) :
    Calls Tryz.prog 28 #[.pointer (some ⟨tb, 0, none⟩), .agg #[.int .i64 p.space, .int .i64 p.need, .int .i64 p.ban, .int .i64 p.ways, .slice oa p.outs.length oc, .slice ia p.ins.length ic]] w fun e w' => e = .returned (.int .i64 (right ⟨c.pods, c.pols ++ [p]⟩).1) ∧ Chg tb ⟨c.pods, c.pols ++ [p]⟩ w w' := by
  obtain ⟨l1, l2⟩ := right_lens hr
  obtain ⟨R, hR, hrd, hok⟩ := pols_cells hq
  have hRl : R.length = c.pols.length := by rw [← hR, List.length_map]
  have HRD := hid hrd
  have HOK := hid hok
  have HP := hid hp
  have HT := hid ht
  have HR1 := hid (show (⟨p, .slice oa p.outs.length oc, .slice ia p.ins.length ic⟩ : RPol).ok w.heap.size w from ⟨⟨oa, oc, rfl, ho⟩, ia, ic, rfl, hi⟩)
  have htl : tb < w.heap.size := (Array.getElem?_eq_some_iff.1 ht).1
  have t0 : w.cell? ⟨tb, 0, none⟩ = some (.slice pa c.pods.length pc) := (blk_cell ht 0).trans rfl
  have t1 : w.cell? ⟨tb, 1, none⟩ = some (.slice qa R.length qc) := by rw [hRl]; exact (blk_cell ht 1).trans rfl
  have HRL := hid hRl
  have hR4 : R.length ≤ 4 := by omega
  clear hp hq ht hr hrd hok ho hi hRl
  obtain ⟨D, hD⟩ : ∃ D, D = R ++ [⟨p, .slice oa p.outs.length oc, .slice ia p.ins.length ic⟩] := ⟨_, rfl⟩
  have HDM := hid (show D.map (·.d) = c.pols ++ [p] by rw [hD, List.map_append, hR]; rfl)
  have HDO := hid (show ∀ r ∈ D, r.ok w.heap.size w from fun r hr => by
    rw [hD] at hr
    rcases List.mem_append.1 hr with hr | hr
    · exact HOK.out r hr
    · rw [List.mem_singleton] at hr; subst hr; exact HR1.out)
  have hDl : D.length ≤ 5 := by rw [hD]; simp; omega
  obtain ⟨C, hC⟩ : ∃ C : DClu, C = ⟨c.pods, c.pols ++ [p]⟩ := ⟨_, rfl⟩
  rw [← hC]
  have E4 := hid (show C.pods = c.pods by rw [hC])
  have E5 := hid (show C.pols = D.map (·.d) by rw [hC, HDM.out])
  clear hC
  have HD := hid hD
  clear hD hR
  go_enter Tryz.func28, Tryz.ntmps28
  go_wp2_with fail
  generalize hW : ((((w.alloc (Obj.cells #[.int .i64 p.space, .int .i64 p.need, .int .i64 p.ban, .int .i64 p.ways, .slice oa p.outs.length oc, .slice ia p.ins.length ic] 59)).alloc (Obj.cells #[.slice pa c.pods.length pc, .slice qa R.length qc] 28)).alloc (Obj.cells #[.int .i64 p.space, .int .i64 p.need, .int .i64 p.ban, .int .i64 p.ways, .slice oa p.outs.length oc, .slice ia p.ins.length ic] 59)).alloc (Obj.cells #[.slice qa R.length qc, .slice (some ⟨w.heap.size + 1 + 1, 0, none⟩) 1 1] 26)) = W
  have HSW := hid (show W.heap.size = w.heap.size + 4 by rw [← hW]; simp)
  have HBW := hid (show Below w.heap.size w W from by rw [← hW]; exact (by repeat (first | exact Below.refl _ _ | assumption | apply Ext.alloc | apply Ext.drewN | apply Ext.drew | refine Ext.trans ?_ (by assumption))))
  have KB := hid (show W.heap[w.heap.size + 1]? = some (.cells #[.slice pa c.pods.length pc, .slice qa R.length qc] 28 (0, 0)) from by
    rw [← hW]
    have := new_heap (w.alloc (Obj.cells #[.int .i64 p.space, .int .i64 p.need, .int .i64 p.ban, .int .i64 p.ways, .slice oa p.outs.length oc, .slice ia p.ins.length ic] 59)) (.cells #[.slice pa c.pods.length pc, .slice qa R.length qc] 28)
    simp only [World.size_alloc] at this
    exact (Below.heap_alloc _ _ _ (by simp only [World.size_alloc]; omega)).trans ((Below.heap_alloc _ _ _ (by simp only [World.size_alloc]; omega)).trans this))
  have s0 : W.cell? ⟨w.heap.size + 1 + 1 + 1, 0, none⟩ = some (.slice qa R.length qc) := by rw [← hW]; simp [go_sem]
  have s1 : W.cell? ⟨w.heap.size + 1 + 1 + 1, 1, none⟩ = some (.slice (some ⟨w.heap.size + 1 + 1, 0, none⟩) 1 1) := by rw [← hW]; simp [go_sem]
  have p0 : W.cell? ⟨w.heap.size + 1 + 1, 0, none⟩ = some (.int .i64 p.space) := by rw [← hW]; simp [go_sem]
  have p1 : W.cell? ⟨w.heap.size + 1 + 1, 1, none⟩ = some (.int .i64 p.need) := by rw [← hW]; simp [go_sem]
  have p2 : W.cell? ⟨w.heap.size + 1 + 1, 2, none⟩ = some (.int .i64 p.ban) := by rw [← hW]; simp [go_sem]
  have p3 : W.cell? ⟨w.heap.size + 1 + 1, 3, none⟩ = some (.int .i64 p.ways) := by rw [← hW]; simp [go_sem]
  have p4 : W.cell? ⟨w.heap.size + 1 + 1, 4, none⟩ = some (.slice oa p.outs.length oc) := by rw [← hW]; simp [go_sem]
  have p5 : W.cell? ⟨w.heap.size + 1 + 1, 5, none⟩ = some (.slice ia p.ins.length ic) := by rw [← hW]; simp [go_sem]
  clear hW t0 t1
  refine (concatPol R [⟨p, .slice oa p.outs.length oc, .slice ia p.ins.length ic⟩] qa (some ⟨w.heap.size + 1 + 1, 0, none⟩) qc 1 (w.heap.size + 1 + 1 + 1) W (cells_to HRD.out HBW.out HBW.out.size) (rd_one (by decide) (by have := HSW.out; omega) (pol_cells p0 p1 p2 p3 p4 p5)) (by omega) (by simp) (encPols_ones HOK.out) (encPols_ones (B := w.heap.size) (w := w) (fun r hr => by rw [List.mem_singleton] at hr; subst hr; exact HR1.out)) s0 s1).mono ?_
  rw [← HD.out]
  rintro e w1 ⟨v, rfl, ho, hb1⟩
  obtain ⟨va, vc, hv, hvc, _⟩ := own_slice ho
  subst hv
  have HO := hid ho
  have HB1 := hid hb1
  have kb1 := (hb1.block (w.heap.size + 1) (by have := HSW.out; omega)).trans KB.out
  have m0 := blk_cell kb1
  have mf := blk_frozen kb1
  clear ho hb1 kb1 s0 s1 p0 p1 p2 p3 p4 p5
  go_wp2_with fail
  generalize hX : w1.setCell ⟨w.heap.size + 1, 1, none⟩ (.slice va D.length vc) = X
  have hoX : X.ownsRow W.heap.size 59 6 (.slice va D.length vc) D.length (D.flatMap encPol) := by rw [← hX]; exact row_set HO.out _ _ (by show w.heap.size + 1 < _; have := HSW.out; omega)
  have hbX : Below w.heap.size w X := by rw [← hX]; exact (Ext.trans HBW.out HB1.out).setCell (by show w.heap.size ≤ w.heap.size + 1; omega) _
  clear hX m0 mf
  obtain ⟨va', vc', hv', _, hrX⟩ := own_pols hoX (by omega) hbX HDO.out
  injection hv' with e1 e2 e3
  subst e1
  have q1 := (hbX.block tb htl).trans HT.out
  refine (follow_len C tb (.slice pa c.pods.length pc) (.slice qa c.pols.length qc) u2 pa va pc vc c.pods.length D.length X (by rw [E4.out]) (by rw [E5.out, List.length_map]) q1 (by rw [E4.out]; exact rdPods.to HP.out hbX) (by rw [E5.out]; exact hrX) (by rw [E4.out]; exact hpc)).mono ?_
  rintro e w2 ⟨rfl, hc⟩
  have HC := hid (Chg.pre hbX hc)
  clear hc hoX hbX hrX
  go_wp2
  go_ret
  exact ⟨rfl, HC.out⟩
end Go.Proofs.YtmkjlhplgcifiaaGreat
namespace Go.Proofs.YtmkjlhplgcifiaaGreat
open Go.ChangeShapes Go.WideShapes Go.ChangeAt Go.RowKit
attribute [local simp] World.cell?_grow
attribute [local go_sem] World.cell?_grow
attribute [local simp] World.cell?_alloc_there
attribute [local go_sem] World.cell?_alloc_there
attribute [local go_sem] eqg_blk std_blk eqg_pod std_pod eqg_sel std_sel eqg_prt std_prt
attribute [local go_sem ↓] eql_blk eql_sel neq_sel eql_prt eql_pod
attribute [local go_sem ↓] met_in1 met_in2 met_re1 met_re2
attribute [local go_sem ↓] met_has1 met_has2
attribute [local go_sem ↓] met_bl1 met_bl2
attribute [local go_sem] eqg_row std_row
attribute [local go_sem ↓] neq_row
set_option linter.unusedVariables false
set_option linter.unusedSimpArgs false
theorem rd_take {α : Type} {B sz bytes : Nat} {w : World} {E : Nat → World → Nat → Nat → α → Prop} {a : Option Addr} {l : List α} (h : RdSl B w sz bytes E a l) (n : Nat) : RdSl B w sz bytes E a (l.take n) :=
  ⟨Nat.le_trans (Nat.mul_le_mul_right _ (by rw [List.length_take]; omega)) h.1, fun i x hx => h.2 i x (by rw [List.getElem?_take] at hx; split at hx; exact hx; cases hx)⟩
theorem rd_drop {α : Type} {B sz bytes b off : Nat} {w : World} {E : Nat → World → Nat → Nat → α → Prop} {l : List α} (h : RdSl B w sz bytes E (some ⟨b, off, none⟩) l) (n : Nat) : RdSl B w sz bytes E (some ⟨b, off + n * sz, none⟩) (l.drop n) :=
  ⟨Nat.le_trans (Nat.mul_le_mul_right _ (by rw [List.length_drop]; omega)) h.1, fun i x hx => by
    rw [List.getElem?_drop] at hx
    obtain ⟨b', off', e, hb, he⟩ := h.2 _ x hx
    cases e
    exact ⟨b, off + n * sz, rfl, hb, by rw [show off + n * sz + i * sz = off + (n + i) * sz by rw [Nat.add_mul]; omega]; exact he⟩⟩
theorem own_lower {w : World} {base base' : Nat} {e : TypeId} {size : Nat} {v : Value} {n : Nat} {xs : List Value} (h : w.ownsRow base e size v n xs) (hb : base' ≤ base) : w.ownsRow base' e size v n xs := by
  obtain ⟨h1, h2 | ⟨g, cap, cur, e, h3, h4⟩⟩ := h
  · exact ⟨h1, .inl h2⟩
  · exact ⟨h1, .inr ⟨g, cap, cur, e, Nat.le_trans hb h3, h4⟩⟩
theorem concat_drop (R D : List RPol) (k b off qc : Nat) (da : Option Addr) (dc sb : Nat) (w W : World) (hk : k < R.length) (hR : R.length ≤ 4) (hD : D = R.take k ++ R.drop (k + 1)) (hrd : RdSl w.heap.size w 6 80 (eCells encPol) (some ⟨b, off, none⟩) R) (hok : ∀ r ∈ R, r.ok w.heap.size w) (hbw : Below w.heap.size w W)
    (s0 : W.cell? ⟨sb, 0, none⟩ = some (.slice (some ⟨b, off, none⟩) k qc)) (s1 : W.cell? ⟨sb, 1, none⟩ = some (.slice da (R.length - (k + 1)) dc)) (hrd2 : RdSl w.heap.size w 6 80 (eCells encPol) da (R.drop (k + 1))) :
    Calls Tryz.prog 47 #[.slice (some ⟨sb, 0, none⟩) 2 2] W fun e w' => ∃ va vc, e = .returned (.slice va D.length vc) ∧ D.length ≤ vc ∧ w'.ownsRow W.heap.size 59 6 (.slice va D.length vc) D.length (D.flatMap encPol) ∧ Below W.heap.size W w' := by
  have l1 : (R.take k).length = k := by rw [List.length_take]; omega
  have l2 : (R.drop (k + 1)).length = R.length - (k + 1) := List.length_drop
  have hc := concatPol (R.take k) (R.drop (k + 1)) (some ⟨b, off, none⟩) da qc dc sb W (cells_to (rd_take hrd k) hbw hbw.size) (cells_to hrd2 hbw hbw.size) (by omega) (by omega) (encPols_ones (B := w.heap.size) (w := w) fun r hr => hok r (List.mem_of_mem_take hr)) (encPols_ones (B := w.heap.size) (w := w) fun r hr => hok r (List.mem_of_mem_drop hr)) (by rw [l1]; exact s0) (by rw [l2]; exact s1)
  rw [← hD] at hc
  refine hc.mono ?_
  rintro e w' ⟨v, rfl, ho, hb'⟩
  obtain ⟨va, vc, hv, hvc, _⟩ := own_slice ho
  subst hv
  exact ⟨va, vc, rfl, hvc, ho, hb'⟩
set_option maxRecDepth 100000 in
set_option maxHeartbeats 4000000 in
theorem dropPol_none (i : Int) (tb : Nat) (u2 : Value) (c : DClu) (pa qa : Option Addr) (pc qc : Nat) (w : World) (ht : w.heap[tb]? = some (.cells #[.slice pa c.pods.length pc, .slice qa c.pols.length qc, u2] 94 (0, 0))) (hp : rdPods w.heap.size w pa c.pods) (hq : rdPols w.heap.size w qa c.pols) (hpc : c.pods.length ≤ pc) (hqc : c.pols.length ≤ qc) (hr : (right c).1 = 0) (hn : ¬ (0 ≤ i ∧ i < c.pols.length)) :
    Calls Tryz.prog 44 #[.pointer (some ⟨tb, 0, none⟩), .int .i64 i] w fun e w' => e = .returned (.int .i64 6) ∧ Below w.heap.size w w' := by
  obtain ⟨l1, l2⟩ := right_lens hr
  have HW := hid (show ∀ W, Calls Tryz.prog 63 #[.int .i64 i, .int .i64 0, .int .i64 ((c.pols.length : Int) - 1)] W fun e w' => e = .returned (.bool false) ∧ w' = W from fun W => by
    have := within_any i 0 ((c.pols.length : Int) - 1) W
    rw [show btw i 0 ((c.pols.length : Int) - 1) = false by simp [btw]; omega] at this
    exact this)
  have t0 : w.cell? ⟨tb, 0, none⟩ = some (.slice pa c.pods.length pc) := (blk_cell ht 0).trans rfl
  have t1 : w.cell? ⟨tb, 1, none⟩ = some (.slice qa c.pols.length qc) := (blk_cell ht 1).trans rfl
  clear hp hq ht hr hn
  go_enter Tryz.func44, Tryz.ntmps44
  go_wp2_with fail
  have HB := hid (show Below w.heap.size w (w.alloc (.cells #[.slice pa c.pods.length pc, .slice qa c.pols.length qc] 28)) from (by repeat (first | exact Below.refl _ _ | assumption | apply Ext.alloc | apply Ext.drewN | apply Ext.drew | refine Ext.trans ?_ (by assumption))))
  refine (HW.out _).mono ?_
  rintro e w1 ⟨rfl, rfl⟩
  go_wp2
  go_ret
  exact ⟨rfl, HB.out⟩
set_option maxRecDepth 100000 in
set_option maxHeartbeats 4000000 in
theorem dropPol_some (k : Nat) (tb : Nat) (u2 : Value) (c : DClu) (pa qa : Option Addr) (pc qc : Nat) (w : World) (ht : w.heap[tb]? = some (.cells #[.slice pa c.pods.length pc, .slice qa c.pols.length qc, u2] 94 (0, 0))) (hp : rdPods w.heap.size w pa c.pods) (hq : rdPols w.heap.size w qa c.pols) (hpc : c.pods.length ≤ pc) (hqc : c.pols.length ≤ qc) (hr : (right c).1 = 0) (hk : k < c.pols.length) :
    Calls Tryz.prog 44 #[.pointer (some ⟨tb, 0, none⟩), .int .i64 (k : Int)] w fun e w' => e = .returned (.int .i64 0) ∧ Chg tb ⟨c.pods, c.pols.take k ++ c.pols.drop (k + 1)⟩ w w' := by
  obtain ⟨l1, l2⟩ := right_lens hr
  have HRR := hid (right_dropPol hr k)
  obtain ⟨R, hR, hrd, hok⟩ := pols_cells hq
  have hRl : R.length = c.pols.length := by rw [← hR, List.length_map]
  have HW := hid (show ∀ W, Calls Tryz.prog 63 #[.int .i64 (k : Int), .int .i64 0, .int .i64 ((R.length : Int) - 1)] W fun e w' => e = .returned (.bool true) ∧ w' = W from fun W => by
    have := within_any k 0 ((R.length : Int) - 1) W
    rw [show btw k 0 ((R.length : Int) - 1) = true by simp [btw]; omega] at this
    exact this)
  obtain ⟨b, off, rfl⟩ : ∃ b off, qa = some ⟨b, off, none⟩ := by
    obtain ⟨b, off, e, _⟩ := hrd.2 k R[k] (List.getElem?_eq_getElem (by omega))
    exact ⟨b, off, e⟩
  have HRD := hid hrd
  have HOK := hid hok
  have HP := hid hp
  have HT := hid ht
  have htl : tb < w.heap.size := (Array.getElem?_eq_some_iff.1 ht).1
  have t0 : w.cell? ⟨tb, 0, none⟩ = some (.slice pa c.pods.length pc) := (blk_cell ht 0).trans rfl
  have t1 : w.cell? ⟨tb, 1, none⟩ = some (.slice (some ⟨b, off, none⟩) R.length qc) := by rw [hRl]; exact (blk_cell ht 1).trans rfl
  have hR4 : R.length ≤ 4 := by omega
  have hRq : R.length ≤ qc := by omega
  have hkR : k < R.length := by omega
  obtain ⟨D, hD⟩ : ∃ D, D = R.take k ++ R.drop (k + 1) := ⟨_, rfl⟩
  have hDM : D.map (·.d) = c.pols.take k ++ c.pols.drop (k + 1) := by rw [hD, List.map_append, List.map_take, List.map_drop, hR]
  have HDO := hid (show ∀ r ∈ D, r.ok w.heap.size w from fun r hr => by
    rw [hD] at hr
    rcases List.mem_append.1 hr with hr | hr
    · exact HOK.out r (List.mem_of_mem_take hr)
    · exact HOK.out r (List.mem_of_mem_drop hr))
  have hDl : D.length ≤ 5 := by rw [hD]; simp; omega
  obtain ⟨C, hC⟩ : ∃ C : DClu, C = ⟨c.pods, c.pols.take k ++ c.pols.drop (k + 1)⟩ := ⟨_, rfl⟩
  rw [← hC] at HRR ⊢
  have E4 := hid (show C.pods = c.pods by rw [hC])
  have E5 := hid (show C.pols = D.map (·.d) by rw [hC, hDM])
  have HD := hid hD
  clear hp hq ht hr hrd hok hRl hD hDM hC hR hk
  go_enter Tryz.func44, Tryz.ntmps44
  go_wp2_with fail
  generalize hX : w.alloc (.cells #[.slice pa c.pods.length pc, .slice (some ⟨b, off, none⟩) R.length qc] 28) = W
  have HSW := hid (show W.heap.size = w.heap.size + 1 by rw [← hX]; simp)
  have HBW := hid (show Below w.heap.size w W from by rw [← hX]; exact (by repeat (first | exact Below.refl _ _ | assumption | apply Ext.alloc | apply Ext.drewN | apply Ext.drew | refine Ext.trans ?_ (by assumption))))
  have KB := hid (show W.heap[w.heap.size]? = some (.cells #[.slice pa c.pods.length pc, .slice (some ⟨b, off, none⟩) R.length qc] 28 (0, 0)) from by rw [← hX]; exact new_heap _ _)
  clear hX t0 t1
  refine (HW.out _).mono ?_
  rintro e w1 ⟨rfl, rfl⟩
  have m0 := blk_cell KB.out 0
  have m1 := blk_cell KB.out 1
  have mf := blk_frozen KB.out
  have HSW2 := hid (show w.heap.size < w1.heap.size by have := HSW.out; omega)
  have HCC := hid (fun (W : World) (da : Option Addr) (dc : Nat) (hb : Below w1.heap.size w1 W) => concat_drop R D k b off qc da dc w1.heap.size w W hkR (by omega) HD.out HRD.out HOK.out (Ext.trans HBW.out hb))
  have z1 : (k : Int) ≤ (qc : Int) := by omega
  have z2 : (k : Int) + 1 ≤ (R.length : Int) := by omega
  have z3 : (R.length : Int) ≤ (qc : Int) := by omega
  have z4 : 0 ≤ (k : Int) := by omega
  have z5 : 0 ≤ (k : Int) + 1 := by omega
  have z6 : (k : Int) < (R.length : Int) := by omega
  have z7 : IntKind.i64.wrap ((k : Int) + 1) = (k : Int) + 1 := by rw [IntKind.wrap_i64]; omega
  have z8 : ((k : Int) + 1).toNat = k + 1 := by omega
  go_wp2_with fail
  by_cases hqk : qc = k + 1
  · have HQK := hid hqk
    have hd0 : R.drop (k + 1) = [] := List.drop_eq_nil_of_le (by omega)
    have HD0 := hid hd0
    clear hd0 hqk
    refine wp_region_held_tail (S := (fun w' => w'.cell? ⟨w.heap.size, 1, none⟩ = some (.slice (some ⟨b, off, none⟩) R.length qc))) 11 (by kernel_rfl) (by kernel_rfl) ?_
    simp only [takes_11, drops_11]
    have hS0 : (fun w' => w'.cell? ⟨w.heap.size, 1, none⟩ = some (.slice (some ⟨b, off, none⟩) R.length qc)) w1.drew := m1
    refine htake_0 (.pointer (some ⟨w.heap.size, 1, none⟩)) (by kernel_rfl) (by kernel_rfl) (by kernel_rfl) rfl (fun _ _ _ h => h) (fun w' hSw => by (have s0 := hSw; go_simp)) hS0 ?_
    try simp only [Act.put, List.setIfInBounds_toArray, List.set_cons_zero, List.set_cons_succ]
    refine htake_1 (.slice (some ⟨b, off, none⟩) R.length qc) (by kernel_rfl) (by kernel_rfl) (by kernel_rfl) rfl (fun _ _ _ h => h) (fun w' hSw => by (have s0 := hSw; go_simp)) hS0 ?_
    try simp only [Act.put, List.setIfInBounds_toArray, List.set_cons_zero, List.set_cons_succ]
    refine htake_2 (.int .i64 (k : Int)) (by kernel_rfl) (by kernel_rfl) (by kernel_rfl) rfl (fun _ _ _ h => h) (fun w' hSw => by (have s0 := hSw; go_simp)) hS0 ?_
    try simp only [Act.put, List.setIfInBounds_toArray, List.set_cons_zero, List.set_cons_succ]
    refine htake_3 (.slice (some ⟨b, off, none⟩) k qc) (by kernel_rfl) (by kernel_rfl) (by kernel_rfl) rfl (fun _ _ _ h => h) (fun w' hSw => by (have s0 := hSw; go_simp)) hS0 ?_
    try simp only [Act.put, List.setIfInBounds_toArray, List.set_cons_zero, List.set_cons_succ]
    refine htake_4 (.pointer (some ⟨w.heap.size, 1, none⟩)) (by kernel_rfl) (by kernel_rfl) (by kernel_rfl) rfl (fun _ _ _ h => h) (fun w' hSw => by (have s0 := hSw; go_simp)) hS0 ?_
    try simp only [Act.put, List.setIfInBounds_toArray, List.set_cons_zero, List.set_cons_succ]
    refine htake_5 (.slice (some ⟨b, off, none⟩) R.length qc) (by kernel_rfl) (by kernel_rfl) (by kernel_rfl) rfl (fun _ _ _ h => h) (fun w' hSw => by (have s0 := hSw; go_simp)) hS0 ?_
    try simp only [Act.put, List.setIfInBounds_toArray, List.set_cons_zero, List.set_cons_succ]
    refine htake_6 (.int .i64 (k : Int)) (by kernel_rfl) (by kernel_rfl) (by kernel_rfl) rfl (fun _ _ _ h => h) (fun w' hSw => by (have s0 := hSw; go_simp)) hS0 ?_
    try simp only [Act.put, List.setIfInBounds_toArray, List.set_cons_zero, List.set_cons_succ]
    refine htake_7 (.int .i64 ((k : Int) + 1)) (by kernel_rfl) (by kernel_rfl) (by kernel_rfl) rfl (fun _ _ _ h => h) (fun w' hSw => by (have s0 := hSw; go_simp)) hS0 ?_
    try simp only [Act.put, List.setIfInBounds_toArray, List.set_cons_zero, List.set_cons_succ]
    refine htake_8 (.slice (some ⟨b, off, none⟩) (R.length - (k + 1)) (qc - (k + 1))) (by kernel_rfl) (by kernel_rfl) (by kernel_rfl) rfl (fun _ _ _ h => h) (fun w' hSw => by (have s0 := hSw; have eq := HQK.out; go_simp)) hS0 ?_
    try simp only [Act.put, List.setIfInBounds_toArray, List.set_cons_zero, List.set_cons_succ]
    refine hone_9 (by kernel_rfl) rfl (fun K hK => ?_)
    go_simp
    have HBA := hid (show Below w1.heap.size w1 (w1.alloc (.cells #[.slice (some ⟨b, off, none⟩) k qc, .slice (some ⟨b, off, none⟩) (R.length - (k + 1)) (qc - (k + 1))] 26)).drew from ((Below.refl _ w1).alloc (Nat.le_refl _) _).drew)
    refine hK _ _ (cell_past (w := w1) m1) ?_
    try simp only [Act.put, List.setIfInBounds_toArray, List.set_cons_zero, List.set_cons_succ]
    clear hK
    refine hone_10 (by kernel_rfl) rfl (fun K hK => ?_)
    go_simp
    go_at_call 47
    refine (concat_drop R D k b off qc (some ⟨b, off, none⟩) (qc - (k + 1)) w1.heap.size w (w1.alloc (.cells #[.slice (some ⟨b, off, none⟩) k qc, .slice (some ⟨b, off, none⟩) (R.length - (k + 1)) (qc - (k + 1))] 26)).drew hkR (by omega) HD.out HRD.out HOK.out (Ext.trans HBW.out HBA.out) ((blk_cell (new_heap w1 (.cells #[.slice (some ⟨b, off, none⟩) k qc, .slice (some ⟨b, off, none⟩) (R.length - (k + 1)) (qc - (k + 1))] 26)) 0).trans rfl) ((blk_cell (new_heap w1 (.cells #[.slice (some ⟨b, off, none⟩) k qc, .slice (some ⟨b, off, none⟩) (R.length - (k + 1)) (qc - (k + 1))] 26)) 1).trans rfl) (by rw [HD0.out]; exact rd_nil _ _ _ _ _ _)).mono ?_
    rintro e w3 ⟨va, vc, rfl, hvc, ho, hb3⟩
    have HO3 := hid ho
    have HVC := hid hvc
    have HB3 := hid (HBA.out.trans (hb3.mono (by show _ ≤ (World.alloc w1 _).heap.size; rw [World.size_alloc]; omega)))
    have kb3 := (HB3.out.block w.heap.size HSW2.out).trans KB.out
    have KB3 := hid kb3
    have n1 : w3.cell? ⟨w.heap.size, 1, none⟩ = some (.slice (some ⟨b, off, none⟩) R.length qc) := (blk_cell kb3 1).trans rfl
    have n0 : w3.cell? ⟨w.heap.size, 0, none⟩ = some (.slice pa c.pods.length pc) := (blk_cell kb3 0).trans rfl
    have nf := blk_frozen kb3
    clear ho hvc hb3 kb3
    refine hK _ _ n1 ?_
    refine wpAnyH_done (by kernel_rfl) ?_ _
    show wpList _ _ _ _ _ _
    try simp only [Act.put, List.setIfInBounds_toArray, List.set_cons_zero, List.set_cons_succ]
    clear hK hS0 m0 m1 mf
    go_wp2_with fail
    have HX := hid (set_blk KB3.out 1 (.slice va D.length vc))
    have HOX := hid (row_set (own_lower HO3.out (show w1.heap.size ≤ _ by show _ ≤ (World.alloc w1 _).heap.size; rw [World.size_alloc]; omega)) ⟨w.heap.size, 1, none⟩ (.slice va D.length vc) HSW2.out)
    have HBX := hid (show Below w.heap.size w (w3.setCell ⟨w.heap.size, 1, none⟩ (.slice va D.length vc)) from (Ext.trans HBW.out HB3.out).setCell (Nat.le_refl _) _)
    generalize w3.setCell ⟨w.heap.size, 1, none⟩ (.slice va D.length vc) = X at HX HOX HBX ⊢
    have hbX := HBX.out
    obtain ⟨va', vc', hv', _, hrX⟩ := own_pols HOX.out (by omega) hbX HDO.out
    injection hv' with e1 e2 e3
    subst e1
    have q1 := (hbX.block tb htl).trans HT.out
    refine (follow_len C tb _ _ u2 pa va pc vc c.pods.length D.length X (by rw [E4.out]) (by rw [E5.out, List.length_map]) q1 (by rw [E4.out]; exact rdPods.to HP.out hbX) (by rw [E5.out]; exact hrX) (by rw [E4.out]; exact hpc)).mono ?_
    rw [HRR.out]
    rintro e w2 ⟨rfl, hc⟩
    have HC := hid (Chg.pre hbX hc)
    clear hc hbX hrX q1 n0 n1 nf
    go_wp2
    go_ret
    exact ⟨rfl, HC.out⟩
  · have hqk2 : ¬ qc = k + 1 := hqk
    refine wp_region_held_tail (S := (fun w' => w'.cell? ⟨w.heap.size, 1, none⟩ = some (.slice (some ⟨b, off, none⟩) R.length qc))) 11 (by kernel_rfl) (by kernel_rfl) ?_
    simp only [takes_11, drops_11]
    have hS0 : (fun w' => w'.cell? ⟨w.heap.size, 1, none⟩ = some (.slice (some ⟨b, off, none⟩) R.length qc)) w1.drew := m1
    refine htake_0 (.pointer (some ⟨w.heap.size, 1, none⟩)) (by kernel_rfl) (by kernel_rfl) (by kernel_rfl) rfl (fun _ _ _ h => h) (fun w' hSw => by (have s0 := hSw; go_simp)) hS0 ?_
    try simp only [Act.put, List.setIfInBounds_toArray, List.set_cons_zero, List.set_cons_succ]
    refine htake_1 (.slice (some ⟨b, off, none⟩) R.length qc) (by kernel_rfl) (by kernel_rfl) (by kernel_rfl) rfl (fun _ _ _ h => h) (fun w' hSw => by (have s0 := hSw; go_simp)) hS0 ?_
    try simp only [Act.put, List.setIfInBounds_toArray, List.set_cons_zero, List.set_cons_succ]
    refine htake_2 (.int .i64 (k : Int)) (by kernel_rfl) (by kernel_rfl) (by kernel_rfl) rfl (fun _ _ _ h => h) (fun w' hSw => by (have s0 := hSw; go_simp)) hS0 ?_
    try simp only [Act.put, List.setIfInBounds_toArray, List.set_cons_zero, List.set_cons_succ]
    refine htake_3 (.slice (some ⟨b, off, none⟩) k qc) (by kernel_rfl) (by kernel_rfl) (by kernel_rfl) rfl (fun _ _ _ h => h) (fun w' hSw => by (have s0 := hSw; go_simp)) hS0 ?_
    try simp only [Act.put, List.setIfInBounds_toArray, List.set_cons_zero, List.set_cons_succ]
    refine htake_4 (.pointer (some ⟨w.heap.size, 1, none⟩)) (by kernel_rfl) (by kernel_rfl) (by kernel_rfl) rfl (fun _ _ _ h => h) (fun w' hSw => by (have s0 := hSw; go_simp)) hS0 ?_
    try simp only [Act.put, List.setIfInBounds_toArray, List.set_cons_zero, List.set_cons_succ]
    refine htake_5 (.slice (some ⟨b, off, none⟩) R.length qc) (by kernel_rfl) (by kernel_rfl) (by kernel_rfl) rfl (fun _ _ _ h => h) (fun w' hSw => by (have s0 := hSw; go_simp)) hS0 ?_
    try simp only [Act.put, List.setIfInBounds_toArray, List.set_cons_zero, List.set_cons_succ]
    refine htake_6 (.int .i64 (k : Int)) (by kernel_rfl) (by kernel_rfl) (by kernel_rfl) rfl (fun _ _ _ h => h) (fun w' hSw => by (have s0 := hSw; go_simp)) hS0 ?_
    try simp only [Act.put, List.setIfInBounds_toArray, List.set_cons_zero, List.set_cons_succ]
    refine htake_7 (.int .i64 ((k : Int) + 1)) (by kernel_rfl) (by kernel_rfl) (by kernel_rfl) rfl (fun _ _ _ h => h) (fun w' hSw => by (have s0 := hSw; go_simp)) hS0 ?_
    try simp only [Act.put, List.setIfInBounds_toArray, List.set_cons_zero, List.set_cons_succ]
    refine htake_8 (.slice (some ⟨b, off + (k + 1) * 6, none⟩) (R.length - (k + 1)) (qc - (k + 1))) (by kernel_rfl) (by kernel_rfl) (by kernel_rfl) rfl (fun _ _ _ h => h) (fun w' hSw => by (have s0 := hSw; go_simp)) hS0 ?_
    try simp only [Act.put, List.setIfInBounds_toArray, List.set_cons_zero, List.set_cons_succ]
    refine hone_9 (by kernel_rfl) rfl (fun K hK => ?_)
    go_simp
    have HBA := hid (show Below w1.heap.size w1 (w1.alloc (.cells #[.slice (some ⟨b, off, none⟩) k qc, .slice (some ⟨b, off + (k + 1) * 6, none⟩) (R.length - (k + 1)) (qc - (k + 1))] 26)).drew from ((Below.refl _ w1).alloc (Nat.le_refl _) _).drew)
    refine hK _ _ (cell_past (w := w1) m1) ?_
    try simp only [Act.put, List.setIfInBounds_toArray, List.set_cons_zero, List.set_cons_succ]
    clear hK
    refine hone_10 (by kernel_rfl) rfl (fun K hK => ?_)
    go_simp
    go_at_call 47
    refine (concat_drop R D k b off qc (some ⟨b, off + (k + 1) * 6, none⟩) (qc - (k + 1)) w1.heap.size w (w1.alloc (.cells #[.slice (some ⟨b, off, none⟩) k qc, .slice (some ⟨b, off + (k + 1) * 6, none⟩) (R.length - (k + 1)) (qc - (k + 1))] 26)).drew hkR (by omega) HD.out HRD.out HOK.out (Ext.trans HBW.out HBA.out) ((blk_cell (new_heap w1 (.cells #[.slice (some ⟨b, off, none⟩) k qc, .slice (some ⟨b, off + (k + 1) * 6, none⟩) (R.length - (k + 1)) (qc - (k + 1))] 26)) 0).trans rfl) ((blk_cell (new_heap w1 (.cells #[.slice (some ⟨b, off, none⟩) k qc, .slice (some ⟨b, off + (k + 1) * 6, none⟩) (R.length - (k + 1)) (qc - (k + 1))] 26)) 1).trans rfl) (rd_drop HRD.out (k + 1))).mono ?_
    rintro e w3 ⟨va, vc, rfl, hvc, ho, hb3⟩
    have HO3 := hid ho
    have HVC := hid hvc
    have HB3 := hid (HBA.out.trans (hb3.mono (by show _ ≤ (World.alloc w1 _).heap.size; rw [World.size_alloc]; omega)))
    have kb3 := (HB3.out.block w.heap.size HSW2.out).trans KB.out
    have KB3 := hid kb3
    have n1 : w3.cell? ⟨w.heap.size, 1, none⟩ = some (.slice (some ⟨b, off, none⟩) R.length qc) := (blk_cell kb3 1).trans rfl
    have n0 : w3.cell? ⟨w.heap.size, 0, none⟩ = some (.slice pa c.pods.length pc) := (blk_cell kb3 0).trans rfl
    have nf := blk_frozen kb3
    clear ho hvc hb3 kb3
    refine hK _ _ n1 ?_
    refine wpAnyH_done (by kernel_rfl) ?_ _
    show wpList _ _ _ _ _ _
    try simp only [Act.put, List.setIfInBounds_toArray, List.set_cons_zero, List.set_cons_succ]
    clear hK hS0 m0 m1 mf
    go_wp2_with fail
    have HX := hid (set_blk KB3.out 1 (.slice va D.length vc))
    have HOX := hid (row_set (own_lower HO3.out (show w1.heap.size ≤ _ by show _ ≤ (World.alloc w1 _).heap.size; rw [World.size_alloc]; omega)) ⟨w.heap.size, 1, none⟩ (.slice va D.length vc) HSW2.out)
    have HBX := hid (show Below w.heap.size w (w3.setCell ⟨w.heap.size, 1, none⟩ (.slice va D.length vc)) from (Ext.trans HBW.out HB3.out).setCell (Nat.le_refl _) _)
    generalize w3.setCell ⟨w.heap.size, 1, none⟩ (.slice va D.length vc) = X at HX HOX HBX ⊢
    have hbX := HBX.out
    obtain ⟨va', vc', hv', _, hrX⟩ := own_pols HOX.out (by omega) hbX HDO.out
    injection hv' with e1 e2 e3
    subst e1
    have q1 := (hbX.block tb htl).trans HT.out
    refine (follow_len C tb _ _ u2 pa va pc vc c.pods.length D.length X (by rw [E4.out]) (by rw [E5.out, List.length_map]) q1 (by rw [E4.out]; exact rdPods.to HP.out hbX) (by rw [E5.out]; exact hrX) (by rw [E4.out]; exact hpc)).mono ?_
    rw [HRR.out]
    rintro e w2 ⟨rfl, hc⟩
    have HC := hid (Chg.pre hbX hc)
    clear hc hbX hrX q1 n0 n1 nf
    go_wp2
    go_ret
    exact ⟨rfl, HC.out⟩
end Go.Proofs.YtmkjlhplgcifiaaGreat
