/-
  palisaderef: AddPolicy, a policy more.
-/
import Derived.Test.YtmkjlhplgcifiaaGreatH50
import Derived.Test.YtmkjlhplgcifiaaGreatH45
namespace Go.Proofs.YtmkjlhplgcifiaaGreat
open Go.ChangeShapes Go.WideShapes Go.ChangeAt Go.RowKit
set_option linter.unusedVariables false
set_option linter.unusedSimpArgs false
attribute [local simp] World.cell?_grow World.cell?_alloc_there
attribute [local go_sem] World.cell?_grow World.cell?_alloc_there eqg_blk std_blk eqg_pod std_pod eqg_sel std_sel eqg_prt std_prt eqg_row std_row
attribute [local go_sem ↓] eql_blk eql_sel neq_sel eql_prt eql_pod met_in1 met_in2 met_re1 met_re2 met_has1 met_has2 met_bl1 met_bl2 neq_row
def RefPol (rb B : Nat) (v v' : Value) (R : List RPol) (p : DPol) (w w' : World) : Prop :=
  (∃ v1 x, x.d = p ∧ w'.heap[rb]? = some (.cells #[v, v1] 144 (0, 0)) ∧ w'.ownsRow B 59 6 v1 (R ++ [x]).length ((R ++ [x]).flatMap encPol) ∧ (∀ g, v1.ownBlock = some g → v'.ownBlock = some g ∨ w.heap.size ≤ g) ∧ x.ok w'.heap.size (hide w' (fun b => decide (b < w.heap.size) || decide (v1.ownBlock = some b)))) ∧ (w'.os = w.os ∧ w'.tape = w.tape ∧ w'.output = w.output) ∧ w.heap.size ≤ w'.heap.size ∧ ∀ b, b < w.heap.size → b ≠ rb → v'.ownBlock ≠ some b → w'.heap[b]? = w.heap[b]?
set_option maxRecDepth 100000 in
set_option maxHeartbeats 2000000 in
theorem refAddPol_ok (p : DPol) (oa ia : Option Addr) (oc ic : Nat) (rb B : Nat) (R : List RPol) (pa : Option Addr) (pn pc : Nat) (v' : Value) (w : World) (ht : w.heap[rb]? = some (.cells #[.slice pa pn pc, v'] 144 (0, 0))) (hown : w.ownsRow B 59 6 v' R.length (R.flatMap encPol)) (hBs : B ≤ w.heap.size) (ho : rdRules w.heap.size w oa p.outs) (hi : rdRules w.heap.size w ia p.ins) (hn : R.length < 4) (hp : polOk p = true) :
    Calls Tryz.prog 88 #[.pointer (some ⟨rb, 0, none⟩), .agg #[.int .i64 p.space, .int .i64 p.need, .int .i64 p.ban, .int .i64 p.ways, .slice oa p.outs.length oc, .slice ia p.ins.length ic]] w fun e w' => e = .returned (.int .i64 0) ∧ RefPol rb B (.slice pa pn pc) v' R p w w' := by
  have HT := hid ht
  have HOW := hid hown
  obtain ⟨qa, qc, hv, hqc, _⟩ := own_slice hown
  subst hv
  have t1 : w.cell? ⟨rb, 1, none⟩ = some (.slice qa R.length qc) := (blk_cell ht 1).trans rfl
  have hlt := (Array.getElem?_eq_some_iff.1 ht).1
  have z1 : ¬ (R.length : Int) ≥ 4 := by omega
  have z2 : ¬ (4 : Int) ≤ R.length := by omega
  have hbA : Below w.heap.size w (w.alloc (.cells #[.int .i64 p.space, .int .i64 p.need, .int .i64 p.ban, .int .i64 p.ways, .slice oa p.outs.length oc, .slice ia p.ins.length ic] 59)) := bel
  have HPA := hid (refPolicy_any p oa ia oc ic (w.alloc (.cells #[.int .i64 p.space, .int .i64 p.need, .int .i64 p.ban, .int .i64 p.ways, .slice oa p.outs.length oc, .slice ia p.ins.length ic] 59)) (rdRules.to ho hbA) (rdRules.to hi hbA))
  have HO := hid ho
  have HI := hid hi
  clear ht ho hi hown
  go_enter Tryz.func88, Tryz.ntmps88
  go_wp2_with fail
  refine HPA.out.mono ?_
  rintro e W ⟨rfl, hbW⟩
  rw [hp]
  have HC := hid ((hbW.block w.heap.size (by simp)).trans (new_heap _ _))
  have HB := hid (Ext.trans hbA hbW)
  have c0 : W.cell? ⟨w.heap.size, 0, none⟩ = some (.int .i64 p.space) := (blk_cell HC.out 0).trans rfl
  have c1 : W.cell? ⟨w.heap.size, 1, none⟩ = some (.int .i64 p.need) := (blk_cell HC.out 1).trans rfl
  have c2 : W.cell? ⟨w.heap.size, 2, none⟩ = some (.int .i64 p.ban) := (blk_cell HC.out 2).trans rfl
  have c3 : W.cell? ⟨w.heap.size, 3, none⟩ = some (.int .i64 p.ways) := (blk_cell HC.out 3).trans rfl
  have c4 : W.cell? ⟨w.heap.size, 4, none⟩ = some (.slice oa p.outs.length oc) := (blk_cell HC.out 4).trans rfl
  have c5 : W.cell? ⟨w.heap.size, 5, none⟩ = some (.slice ia p.ins.length ic) := (blk_cell HC.out 5).trans rfl
  clear hbW hbA t1
  go_wp2_with fail
  refine (copiedPolicy_any p oa ia oc ic W (rdRules.to HO.out HB.out) (rdRules.to HI.out HB.out)).mono ?_
  rintro e X ⟨⟨a2, c2, a2', c2', rfl, hr2, hr2'⟩, hb2⟩
  have HR2 := hid hr2
  have HR2' := hid hr2'
  have HBX := hid (Ext.trans HB.out hb2)
  have HTX := hid ((HBX.out.block rb hlt).trans HT.out)
  have r1 : X.cell? ⟨rb, 1, none⟩ = some (.slice qa R.length qc) := (blk_cell HTX.out 1).trans rfl
  have rf := blk_frozen HTX.out
  clear hr2 hr2' hb2
  go_wp2
  have hy := new_heap X (.cells #[.int .i64 p.space, .int .i64 p.need, .int .i64 p.ban, .int .i64 p.ways, .slice a2 p.outs.length c2, .slice a2' p.ins.length c2'] 59)
  have hys : (X.alloc (.cells #[.int .i64 p.space, .int .i64 p.need, .int .i64 p.ban, .int .i64 p.ways, .slice a2 p.outs.length c2, .slice a2' p.ins.length c2'] 59)).heap.size = X.heap.size + 1 := World.size_alloc _ _
  have hbY : Below X.heap.size X (X.alloc (.cells #[.int .i64 p.space, .int .i64 p.need, .int .i64 p.ban, .int .i64 p.ways, .slice a2 p.outs.length c2, .slice a2' p.ins.length c2'] 59)) := bel
  generalize (X.alloc (.cells #[.int .i64 p.space, .int .i64 p.need, .int .i64 p.ban, .int .i64 p.ways, .slice a2 p.outs.length c2, .slice a2' p.ins.length c2'] 59)) = Y at hy hys hbY ⊢
  have HYB := hid hbY
  have HBY := hid (Ext.trans HBX.out hbY)
  have HTY := hid ((HBY.out.block rb hlt).trans HT.out)
  have r2 : Y.cell? ⟨rb, 1, none⟩ = some (.slice qa R.length qc) := (blk_cell HTY.out 1).trans rfl
  have rf2 := blk_frozen HTY.out
  have d0 : Y.drew.cell? ⟨X.heap.size, 0, none⟩ = some (.int .i64 p.space) := (blk_cell hy 0).trans rfl
  have d1 : Y.drew.cell? ⟨X.heap.size, 1, none⟩ = some (.int .i64 p.need) := (blk_cell hy 1).trans rfl
  have d2 : Y.drew.cell? ⟨X.heap.size, 2, none⟩ = some (.int .i64 p.ban) := (blk_cell hy 2).trans rfl
  have d3 : Y.drew.cell? ⟨X.heap.size, 3, none⟩ = some (.int .i64 p.ways) := (blk_cell hy 3).trans rfl
  have d4 : Y.drew.cell? ⟨X.heap.size, 4, none⟩ = some (.slice a2 p.outs.length c2) := (blk_cell hy 4).trans rfl
  have d5 : Y.drew.cell? ⟨X.heap.size, 5, none⟩ = some (.slice a2' p.ins.length c2') := (blk_cell hy 5).trans rfl
  obtain ⟨ip0, hip, ipz0, ipz1, ipz2⟩ := info_parts info_pol
  have hXs := HBX.out.size
  have hsV : ((Y.alloc (.cells #[.int .i64 p.space, .int .i64 p.need, .int .i64 p.ban, .int .i64 p.ways, .slice a2 p.outs.length c2, .slice a2' p.ins.length c2'] 59)).drew).heap.size = Y.heap.size + 1 := (show (Y.alloc (.cells #[.int .i64 p.space, .int .i64 p.need, .int .i64 p.ban, .int .i64 p.ways, .slice a2 p.outs.length c2, .slice a2' p.ins.length c2'] 59)).heap.size = _ from World.size_alloc _ _)
  have hbV : Below w.heap.size w ((Y.alloc (.cells #[.int .i64 p.space, .int .i64 p.need, .int .i64 p.ban, .int .i64 p.ways, .slice a2 p.outs.length c2, .slice a2' p.ins.length c2'] 59)).drew) := Ext.trans HBY.out (((Below.refl _ Y).alloc (Nat.le_refl _) _).drew)
  have HBV := hid hbV
  have HNW := hid (show ∀ (j : Nat) (u : Value), (encPol ⟨p, .slice a2 p.outs.length c2, .slice a2' p.ins.length c2'⟩)[j]? = some u → ((Y.alloc (.cells #[.int .i64 p.space, .int .i64 p.need, .int .i64 p.ban, .int .i64 p.ways, .slice a2 p.outs.length c2, .slice a2' p.ins.length c2'] 59)).drew).cell? ((⟨Y.heap.size, 0, none⟩ : Addr).add j) = some u from (show ∀ (j : Nat) (u : Value), (encPol ⟨p, .slice a2 p.outs.length c2, .slice a2' p.ins.length c2'⟩)[j]? = some u → (Y.alloc (.cells #[.int .i64 p.space, .int .i64 p.need, .int .i64 p.ban, .int .i64 p.ways, .slice a2 p.outs.length c2, .slice a2' p.ins.length c2'] 59)).cell? ((⟨Y.heap.size, 0, none⟩ : Addr).add j) = some u from cell_new_list Y (encPol ⟨p, .slice a2 p.outs.length c2, .slice a2' p.ins.length c2'⟩) _))
  have HOLV := hid (show ((Y.alloc (.cells #[.int .i64 p.space, .int .i64 p.need, .int .i64 p.ban, .int .i64 p.ways, .slice a2 p.outs.length c2, .slice a2' p.ins.length c2'] 59)).drew).ownsRow B 59 6 (.slice qa R.length qc) R.length (R.flatMap encPol) from own_to HOW.out hbV)
  have HVT := hid (show ((Y.alloc (.cells #[.int .i64 p.space, .int .i64 p.need, .int .i64 p.ban, .int .i64 p.ways, .slice a2 p.outs.length c2, .slice a2' p.ins.length c2'] 59)).drew).heap[rb]? = some (.cells #[.slice pa pn pc, .slice qa R.length qc] 144 (0, 0)) from (hbV.block rb hlt).trans HT.out)
  clear hbV hbY
  have hdw : (Value.slice qa R.length qc).ownBlock ≠ some rb := fun e => by
    obtain ⟨_, ⟨h, _⟩ | ⟨g, cap, cur, h, _, hg, _⟩⟩ := HOW.out
    · rw [h] at e; cases e
    · rw [h] at e
      have e2 : g = rb := by simpa [Value.ownBlock] using e
      rw [e2, HT.out] at hg
      cases hg
  go_region_law (refine step_append_at ((Y.alloc (.cells #[.int .i64 p.space, .int .i64 p.need, .int .i64 p.ban, .int .i64 p.ways, .slice a2 p.outs.length c2, .slice a2' p.ins.length c2'] 59)).drew) (by rfl) (.tmp 25) (.tmp 27) 26 (by rfl) B 59 ip0 _ 6 80 Tryz.underlying26 hip ipz0 ipz1 ipz2 rfl (by decide) _ _ _ (by rfl) HOLV.out ⟨Y.heap.size, 0, none⟩ 1 1 (encPol ⟨p, .slice a2 p.outs.length c2, .slice a2' p.ins.length c2'⟩) (by first | rfl | simp [Act.eval, Act.put]) rfl HNW.out (by intro u hu; simp only [encPol, List.mem_cons, List.not_mem_nil, or_false] at hu; rcases hu with rfl | rfl | rfl | rfl | rfl | rfl <;> rfl) (by unfold maxLen; omega) (by omega) (by omega) ?_; intro v8 w8 hown8 hg8 hat8; have HG8 := hid hg8; have HAT8 := hid hat8; have HO8 := hid hown8; have h8t : w8.heap[rb]? = some (.cells #[.slice pa pn pc, .slice qa R.length qc] 144 (0, 0)) := (hg8.block rb (by omega) (fun e => hdw e.symm)).trans HVT.out; have q8 : w8.cell? ⟨rb, 1, none⟩ = some (.slice qa R.length qc) := (blk_cell h8t 1).trans rfl; have qf8 := blk_frozen h8t; have H8T := hid h8t; obtain ⟨ea, ec, hv8, _, _⟩ := own_slice hown8; subst hv8; clear hown8 hg8 hat8 h8t)
  all_goals (
    go_wp2
    go_ret
    have g8 := hid (show ((Y.alloc (.cells #[.int .i64 p.space, .int .i64 p.need, .int .i64 p.ban, .int .i64 p.ways, .slice a2 p.outs.length c2, .slice a2' p.ins.length c2'] 59)).drew).grownBy w8 (Value.slice qa R.length qc).ownBlock from HG8.out)
    have at8 := hid (show (Value.slice ea (R.length + 1) ec).ownBlock = (Value.slice qa R.length qc).ownBlock ∨ (Value.slice ea (R.length + 1) ec).ownBlock = some ((Y.alloc (.cells #[.int .i64 p.space, .int .i64 p.need, .int .i64 p.ban, .int .i64 p.ways, .slice a2 p.outs.length c2, .slice a2' p.ins.length c2'] 59)).drew).heap.size from HAT8.out)
    have hs8 := g8.out.size
    have hse : Below 0 w8 (w8.setCell ⟨rb, 1, none⟩ (.slice ea (R.length + 1) ec)) := (Below.refl 0 w8).setCell (Nat.zero_le _) _
    have hsz : (w8.setCell ⟨rb, 1, none⟩ (.slice ea (R.length + 1) ec)).heap.size = w8.heap.size := World.size_setCell _ _ _
    have hol : ∀ g, (Value.slice qa R.length qc).ownBlock = some g → g < w.heap.size := fun g hg => (HOW.out.lt g hg).2
    have hne8 : ∀ g, (Value.slice ea (R.length + 1) ec).ownBlock = some g → g ≠ rb := fun g hg e => by
      rcases at8.out with h | h
      · exact hdw (h.symm.trans (hg.trans (by rw [e])))
      · rw [h, hsV] at hg; cases hg; omega
    have hx8 : ∀ b, w.heap.size ≤ b → b < X.heap.size → (w8.setCell ⟨rb, 1, none⟩ (.slice ea (R.length + 1) ec)).heap[b]? = X.heap[b]? := fun b h1 h2 => (Below.heap_setCell _ _ _ _ (by show b ≠ rb; omega)).trans ((g8.out.block b (by omega) (fun e => by have := hol b e.symm; omega)).trans ((show (Y.alloc (.cells #[.int .i64 p.space, .int .i64 p.need, .int .i64 p.ban, .int .i64 p.ways, .slice a2 p.outs.length c2, .slice a2' p.ins.length c2'] 59)).heap[b]? = Y.heap[b]? from Below.heap_alloc _ _ _ (by omega)).trans (HYB.out.block b h2)))
    have hsub : Sub (hide X (low W.heap.size)) (hide (w8.setCell ⟨rb, 1, none⟩ (.slice ea (R.length + 1) ec)) (fun b => decide (b < w.heap.size) || decide ((Value.slice ea (R.length + 1) ec).ownBlock = some b))) := Sub.hide fun b hb hG => by
      have hlow := low_false.1 hG
      have hWs := HB.out.size
      refine ⟨?_, hx8 b (by omega) hb⟩
      simp only [Bool.or_eq_false_iff, decide_eq_false_iff_not]
      refine ⟨by omega, fun e => ?_⟩
      rcases at8.out with h | h
      · have := hol b (h ▸ e); omega
      · rw [h, hsV] at e; cases e; omega
    refine ⟨rfl, ⟨.slice ea (R.length + 1) ec, ⟨p, .slice a2 p.outs.length c2, .slice a2' p.ins.length c2'⟩, rfl, set_blk H8T.out 1 _, ?_, fun g hg => ?_, ⟨a2, c2, rfl, rdRules.sub hsub (by omega) HR2.out⟩, a2', c2', rfl, rdRules.sub hsub (by omega) HR2'.out⟩, ⟨hse.os.trans (g8.out.os.trans HBV.out.os), hse.tape.trans (g8.out.tape.trans HBV.out.tape), hse.output.trans (g8.out.output.trans HBV.out.output)⟩, by omega, fun b hb h1 h2 => (Below.heap_setCell _ _ _ _ h1).trans ((g8.out.block b (by omega) (fun e => h2 e.symm)).trans (HBV.out.block b hb))⟩
    · have h := own_stay (w1 := w8.setCell ⟨rb, 1, none⟩ (.slice ea (R.length + 1) ec)) HO8.out fun g hg => Below.heap_setCell _ _ _ _ (hne8 g hg)
      rw [List.length_append, List.flatMap_append]
      simpa using h
    · rcases at8.out with h | h
      · exact .inl (h ▸ hg)
      · rw [h, hsV] at hg; cases hg; exact .inr (by omega))
theorem Apart.symm {p q : DPair} (h : Apart p q) : Apart q p := fun b e => by
  cases e1 : p.has b with
  | false => rfl
  | true => have := h b e1; rw [e] at this; cases this
theorem pw_at {α : Type} {R : α → α → Prop} {l : List α} (h : l.Pairwise R) {i j : Nat} {x y : α} (hij : i < j) (hx : l[i]? = some x) (hy : l[j]? = some y) : R x y := by
  obtain ⟨hi, rfl⟩ := List.getElem?_eq_some_iff.1 hx
  obtain ⟨hj, rfl⟩ := List.getElem?_eq_some_iff.1 hy
  exact List.pairwise_iff_getElem.1 h i j hi hj hij
theorem pw_of {α : Type} {R : α → α → Prop} {l : List α} (h : ∀ (i j : Nat) (x y : α), i < j → l[i]? = some x → l[j]? = some y → R x y) : l.Pairwise R :=
  List.pairwise_iff_getElem.2 fun i j hi hj hij => h i j _ _ hij (List.getElem?_eq_getElem hi) (List.getElem?_eq_getElem hj)
theorem set_at {Ps : List DPair} {j i : Nat} {p' q : DPair} (h : (Ps.set j p')[i]? = some q) : (i = j ∧ q = p') ∨ (i ≠ j ∧ Ps[i]? = some q) := by
  rw [List.getElem?_set] at h
  split at h
  · rename_i e
    split at h
    · cases h; exact .inl ⟨e.symm, rfl⟩
    · cases h
  · rename_i e
    exact .inr ⟨fun x => e x.symm, h⟩
theorem set_mem {Ps : List DPair} {j : Nat} {p' q : DPair} (h : q ∈ Ps.set j p') : q = p' ∨ ∃ i, i ≠ j ∧ Ps[i]? = some q := by
  obtain ⟨i, hi⟩ := List.mem_iff_getElem?.1 h
  rcases set_at hi with ⟨_, e⟩ | ⟨e1, e2⟩
  · exact .inl e
  · exact .inr ⟨i, e1, e2⟩
theorem at_set {Ps : List DPair} {j : Nat} {p p' : DPair} (hj : Ps[j]? = some p) (ht : p'.tb = p.tb) (hrb : p'.rb = p.rb) : (Ps.set j p').map DPair.at = Ps.map DPair.at := by
  refine List.ext_getElem? fun i => ?_
  rw [List.getElem?_map, List.getElem?_map, List.getElem?_set]
  split
  · rename_i e
    subst e
    rw [if_pos (List.getElem?_eq_some_iff.1 hj).1, hj]
    show some (p'.tb, p'.rb) = some (p.tb, p.rb)
    rw [ht, hrb]
  · rfl
theorem GSt_set {wb : Nat} {vl vd : Value} {Ps : List DPair} {j n : Nat} {p p' : DPair} (hj : Ps[j]? = some p) (hn : ∀ b, p'.has b = true → p.has b = true ∨ n ≤ b) {b : Nat} (hb : b < n) (hG : GSt wb vl vd Ps b = false) : GSt wb vl vd (Ps.set j p') b = false := by
  obtain ⟨g1, g2, g3, g4⟩ := GSt_false.1 hG
  refine GSt_false.2 ⟨g1, g2, g3, fun q hq => ?_⟩
  rcases set_mem hq with rfl | ⟨i, _, hi⟩
  · cases e : q.has b with
    | false => rfl
    | true =>
      rcases hn b e with e1 | e1
      · rw [g4 p (List.mem_of_getElem? hj)] at e1; cases e1
      · omega
  · exact g4 q (List.mem_of_getElem? hi)
theorem St.turn {wb B : Nat} {vl vd : Value} {Ps : List DPair} {Ds : List DSl} {w w' : World} {j : Nat} {p p' : DPair} (h : St wb B vl vd Ps Ds w) (hj : Ps[j]? = some p) (ht : p'.tb = p.tb) (hrb : p'.rb = p.rb)
    (hn : ∀ b, p'.has b = true → p.has b = true ∨ w.heap.size ≤ b) (hok : PairOk B w' (GSt wb vl vd (Ps.set j p')) p') (hs : w.heap.size ≤ w'.heap.size) (hio : w'.os = w.os ∧ w'.tape = w.tape ∧ w'.output = w.output)
    (hf : ∀ b, b < w.heap.size → p.has b = false → w'.heap[b]? = w.heap[b]?) : St wb B vl vd (Ps.set j p') Ds w' ∧ Mv wb vl vd Ps vl vd (Ps.set j p') w w' := by
  obtain ⟨h1, h2, h3, h4, h5, h6, h7⟩ := h
  have hm := List.mem_of_getElem? hj
  have hp := h5 p hm
  have hkeep : ∀ {g : Nat} {cur : Array Value} {t : TypeId}, w.heap[g]? = some (.cells cur t (0, 0)) → t ≠ 94 → t ≠ 144 → t ≠ 54 → t ≠ 59 → w'.heap[g]? = w.heap[g]? := fun {g cur t} hg t1 t2 t3 t4 =>
    hf g (Array.getElem?_eq_some_iff.1 hg).1 (by
      cases e : p.has g with
      | false => rfl
      | true =>
        obtain ⟨cu, t', q1, q2⟩ := hp.ty e
        rw [hg] at q1
        cases q1
        rcases q2 with q | q | q | q
        · exact absurd q t1
        · exact absurd q t2
        · exact absurd q t3
        · exact absurd q t4)
  have hap : ∀ i q, i ≠ j → Ps[i]? = some q → Apart p q := fun i q hi hq => by
    rcases Nat.lt_or_gt_of_ne hi with hl | hl
    · exact (pw_at h7 hl hq hj).symm
    · exact pw_at h7 hl hj hq
  have hap' : ∀ i q, i ≠ j → Ps[i]? = some q → Apart p' q := fun i q hi hq b e => by
    rcases hn b e with e1 | e1
    · exact hap i q hi hq b e1
    · cases e2 : q.has b with
      | false => rfl
      | true => have := (h5 q (List.mem_of_getElem? hq)).lt e2; omega
  refine ⟨⟨h1, (hkeep h2 (by decide) (by decide) (by decide) (by decide)).trans h2, ?_, own_stay h4 fun g hg => by obtain ⟨cu, hcu⟩ := own_ty h4 hg; exact hkeep hcu (by decide) (by decide) (by decide) (by decide), fun q hq => ?_, fun k d hd => ⟨(h6 k d hd).1, own_stay (h6 k d hd).2 fun g hg => by obtain ⟨cu, hcu⟩ := own_ty (h6 k d hd).2 hg; exact hkeep hcu (by decide) (by decide) (by decide) (by decide)⟩, ?_⟩, hio, hs, fun g hg => .inl hg, fun g hg => .inl hg, fun q hq b e => ?_, fun b hb hG => hf b hb ((GSt_false.1 hG).2.2.2 p hm)⟩
  · rw [at_set hj ht hrb]
    exact own_stay h3 fun g hg => by obtain ⟨cu, hcu⟩ := own_ty h3 hg; exact hkeep hcu (by decide) (by decide) (by decide) (by decide)
  · rcases set_mem hq with rfl | ⟨i, hi, hq⟩
    · exact hok
    · exact (h5 q (List.mem_of_getElem? hq)).to hs (fun b e => hf b ((h5 q (List.mem_of_getElem? hq)).lt e) ((hap i q hi hq).symm b e)) fun b hb hG => ⟨GSt_set hj hn hb hG, hf b hb ((GSt_false.1 hG).2.2.2 p hm)⟩
  · refine pw_of fun a b x y hab hx hy => ?_
    rcases set_at hx with ⟨e1, z1⟩ | ⟨e1, z1⟩
    · rcases set_at hy with ⟨e2, _⟩ | ⟨e2, z2⟩
      · omega
      · rw [z1]; exact hap' b y e2 z2
    · rcases set_at hy with ⟨e2, z2⟩ | ⟨e2, z2⟩
      · rw [z2]; exact (hap' a x e1 z1).symm
      · exact pw_at h7 hab z1 z2
  · rcases set_mem hq with rfl | ⟨i, hi, hq⟩
    · exact (hn b e).imp (fun e => ⟨p, hm, e⟩) id
    · exact .inl ⟨q, List.mem_of_getElem? hq, e⟩
def RefTo (B : Nat) (p : DPair) (c' : DClu) (G : Nat → Bool) (w w1 w2 : World) : Prop :=
  ∃ v1 v1', w2.heap[p.rb]? = some (.cells #[v1, v1'] 144 (0, 0)) ∧ w2.ownsRow B 54 4 v1 c'.pods.length (c'.pods.flatMap encPod) ∧ (∃ ys : List RPol, ys.map (·.d) = c'.pols ∧ w2.ownsRow B 59 6 v1' ys.length (ys.flatMap encPol) ∧ ∀ y ∈ ys, y.ok w.heap.size (hide w G) ∨ y.ok w2.heap.size (hide w2 (fun b => decide (b < w1.heap.size) || decide (v1.ownBlock = some b) || decide (v1'.ownBlock = some b)))) ∧
    (∀ g, v1.ownBlock = some g → p.v.ownBlock = some g ∨ w1.heap.size ≤ g) ∧ (∀ g, v1'.ownBlock = some g → p.v'.ownBlock = some g ∨ w1.heap.size ≤ g) ∧ (w2.os = w1.os ∧ w2.tape = w1.tape ∧ w2.output = w1.output) ∧ w1.heap.size ≤ w2.heap.size ∧ ∀ b, b < w1.heap.size → b ≠ p.rb → p.v.ownBlock ≠ some b → p.v'.ownBlock ≠ some b → w2.heap[b]? = w1.heap[b]?
theorem PairOk.apart {B : Nat} {w : World} {G : Nat → Bool} {p : DPair} (h : PairOk B w G p) : p.rb ≠ p.tb ∧ p.v.ownBlock ≠ some p.tb ∧ p.v'.ownBlock ≠ some p.tb ∧ p.v.ownBlock ≠ some p.rb ∧ p.v'.ownBlock ≠ some p.rb ∧ ∀ g, p.v.ownBlock = some g → p.v'.ownBlock ≠ some g := by
  obtain ⟨h0, u0, u1, u2, h1, h2, h3, h4, ys, h5, h6, h7⟩ := h
  refine ⟨ty_ne h2 h1 (by decide), fun e => ?_, fun e => ?_, fun e => ?_, fun e => ?_, fun g hg e => ?_⟩
  · obtain ⟨cu, hcu⟩ := own_ty h4 e; exact ty_ne hcu h1 (by decide) rfl
  · obtain ⟨cu, hcu⟩ := own_ty h6 e; exact ty_ne hcu h1 (by decide) rfl
  · obtain ⟨cu, hcu⟩ := own_ty h4 e; exact ty_ne hcu h2 (by decide) rfl
  · obtain ⟨cu, hcu⟩ := own_ty h6 e; exact ty_ne hcu h2 (by decide) rfl
  · obtain ⟨cu, hcu⟩ := own_ty h4 hg; obtain ⟨cu', hcu'⟩ := own_ty h6 e; exact ty_ne hcu hcu' (by decide) rfl
theorem ne_some {a b : Nat} (h : a ≠ b) : ¬ some a = some b := fun e => h (Option.some.inj e)
theorem St.changed {wb B : Nat} {vl vd : Value} {Ps : List DPair} {Ds : List DSl} {w w1 w2 : World} {j : Nat} {p : DPair} {c' : DClu} (h : St wb B vl vd Ps Ds w) (hj : Ps[j]? = some p) (hr : (right c').1 = 0) (hT : Chg p.tb c' w w1) (hR : RefTo B p c' (GSt wb vl vd Ps) w w1 w2) :
    ∃ p', St wb B vl vd (Ps.set j p') Ds w2 ∧ Mv wb vl vd Ps vl vd (Ps.set j p') w w2 := by
  obtain ⟨⟨u0, u1, u2, t1, t2⟩, hg⟩ := hT.1 hr
  obtain ⟨v1, v1', r1, r2, ⟨ys, r3, r4, r5⟩, o1, o2, ⟨i1, i2, i3⟩, s2, fr⟩ := hR
  have hm := List.mem_of_getElem? hj
  have hp := h.2.2.2.2.1 p hm
  obtain ⟨a1, a2, a3, a4, a5, a6⟩ := hp.apart
  have s1 := hg.size
  have hlt : ∀ b, p.has b = true → b < w.heap.size := fun b e => hp.lt e
  have ltb := hlt p.tb (has_true.2 (.inl rfl))
  have lrb := hlt p.rb (has_true.2 (.inr (.inl rfl)))
  have lv : ∀ g, p.v.ownBlock = some g → g < w.heap.size := fun g e => hlt g (has_true.2 (.inr (.inr (.inl e))))
  have lv' : ∀ g, p.v'.ownBlock = some g → g < w.heap.size := fun g e => hlt g (has_true.2 (.inr (.inr (.inr e))))
  have hn : ∀ b, (⟨p.tb, p.rb, c', v1, v1'⟩ : DPair).has b = true → p.has b = true ∨ w.heap.size ≤ b := fun b e => by
    rcases has_true.1 e with e | e | e | e
    · exact .inl (has_true.2 (.inl e))
    · exact .inl (has_true.2 (.inr (.inl e)))
    · exact (o1 b e).imp (fun e => has_true.2 (.inr (.inr (.inl e)))) fun e => by omega
    · exact (o2 b e).imp (fun e => has_true.2 (.inr (.inr (.inr e)))) fun e => by omega
  have hf : ∀ b, b < w.heap.size → p.has b = false → w2.heap[b]? = w.heap[b]? := fun b hb e => by
    obtain ⟨e1, e2, e3, e4⟩ := has_false.1 e
    exact (fr b (by omega) (fun x => e2 x.symm) e3 e4).trans (hg.block b hb (ne_some fun x => e1 x.symm))
  have hhigh : ∀ b, w.heap.size ≤ b → v1.ownBlock ≠ some b → v1'.ownBlock ≠ some b → GSt wb vl vd (Ps.set j ⟨p.tb, p.rb, c', v1, v1'⟩) b = false := fun b hb x1 x2 => by
    refine GSt_false.2 ⟨fun e => ?_, fun e => ?_, fun e => ?_, fun q hq => ?_⟩
    · have := (Array.getElem?_eq_some_iff.1 h.2.1).1; omega
    · have := (h.2.2.1.lt b e).2; omega
    · have := (h.2.2.2.1.lt b e).2; omega
    · rcases set_mem hq with rfl | ⟨i, _, hq⟩
      · exact has_false.2 ⟨by show p.tb ≠ b; omega, by show p.rb ≠ b; omega, x1, x2⟩
      · cases e : q.has b with
        | false => rfl
        | true => have := (h.2.2.2.2.1 q (List.mem_of_getElem? hq)).lt e; omega
  refine ⟨⟨p.tb, p.rb, c', v1, v1'⟩, h.turn hj rfl rfl hn ?_ (by omega) ⟨i1.trans hg.os, i2.trans hg.tape, i3.trans hg.output⟩ hf⟩
  refine ⟨hr, u0, u1, u2, (fr p.tb (by omega) a1.symm a2 a3).trans t1, r1, ?_, r2, ys, r3, r4, fun y hy => ?_⟩
  · refine t2.sub (BSub.hide fun b hb hG => ?_) s2
    have hl := low_false.1 hG
    have x1 : v1.ownBlock ≠ some b := fun e => by
      rcases o1 b e with e | e
      · have := lv b e; omega
      · omega
    have x2 : v1'.ownBlock ≠ some b := fun e => by
      rcases o2 b e with e | e
      · have := lv' b e; omega
      · omega
    exact ⟨hhigh b hl x1 x2, fr b hb (by omega) (fun e => by have := lv b e; omega) (fun e => by have := lv' b e; omega)⟩
  · rcases r5 y hy with k | k
    · exact NPol.mono _ _ _ _ y (Sub.hide fun b hb hG => ⟨GSt_set hj hn hb hG, hf b hb ((GSt_false.1 hG).2.2.2 p hm)⟩) (by omega) k
    · refine NPol.mono _ _ _ _ y (Sub.hide fun b hb hG => ⟨?_, rfl⟩) (Nat.le_refl _) k
      simp only [Bool.or_eq_false_iff, decide_eq_false_iff_not] at hG
      exact hhigh b (by omega) hG.1.2 hG.2
theorem PairOk.mid {B : Nat} {w w1 : World} {G : Nat → Bool} {p : DPair} (h : PairOk B w G p) (hf : ∀ b, b < w.heap.size → b ≠ p.tb → w1.heap[b]? = w.heap[b]?) :
    w1.heap[p.rb]? = some (.cells #[p.v, p.v'] 144 (0, 0)) ∧ w1.ownsRow B 54 4 p.v p.c.pods.length (p.c.pods.flatMap encPod) ∧ ∃ ys : List RPol, ys.map (·.d) = p.c.pols ∧ w1.ownsRow B 59 6 p.v' ys.length (ys.flatMap encPol) ∧ ∀ y ∈ ys, y.ok w.heap.size (hide w G) := by
  obtain ⟨a1, a2, a3, a4, a5, a6⟩ := h.apart
  have hlt : ∀ b, p.has b = true → b < w.heap.size := fun b e => h.lt e
  obtain ⟨h0, u0, u1, u2, h1, h2, h3, h4, ys, h5, h6, h7⟩ := h
  exact ⟨(hf p.rb (hlt p.rb (has_true.2 (.inr (.inl rfl)))) a1).trans h2, own_stay h4 fun g hg => hf g (h4.lt g hg).2 (fun e => a2 (e ▸ hg)), ys, h5, own_stay h6 fun g hg => hf g (h6.lt g hg).2 (fun e => a3 (e ▸ hg)), h7⟩
theorem RefTo.dropPod {B : Nat} {p : DPair} {l : List DPod} {ys : List RPol} {G : Nat → Bool} {w w1 w2 : World} (hB : B ≤ w1.heap.size) (m1 : w1.heap[p.rb]? = some (.cells #[p.v, p.v'] 144 (0, 0))) (m3 : ys.map (·.d) = p.c.pols) (m4 : w1.ownsRow B 59 6 p.v' ys.length (ys.flatMap encPol)) (m5 : ∀ y ∈ ys, y.ok w.heap.size (hide w G)) (hR : RefPods p.rb p.v' l w1 w2) : RefTo B p ⟨l, p.c.pols⟩ G w w1 w2 := by
  obtain ⟨⟨v, r1, r2⟩, hg⟩ := hR
  exact ⟨v, p.v', r1, own_weak r2 hB, ⟨ys, m3, own_stay m4 fun g hg' => hg.block g (m4.lt g hg').2 (ne_some fun e => by obtain ⟨cu, hcu⟩ := own_ty m4 hg'; exact ty_ne hcu m1 (by decide) e), fun y hy => .inl (m5 y hy)⟩, fun g e => .inr (r2.lt g e).1, fun g e => .inl e, ⟨hg.os, hg.tape, hg.output⟩, hg.size, fun b hb e1 _ _ => hg.block b hb (ne_some e1)⟩
theorem RefTo.dropPol {B : Nat} {p : DPair} {R : List RPol} {cp : List DPol} {G : Nat → Bool} {w w1 w2 : World} (hB : B ≤ w1.heap.size) (m1 : w1.heap[p.rb]? = some (.cells #[p.v, p.v'] 144 (0, 0))) (m2 : w1.ownsRow B 54 4 p.v p.c.pods.length (p.c.pods.flatMap encPod)) (m3 : R.map (·.d) = cp) (m5 : ∀ y ∈ R, y.ok w.heap.size (hide w G)) (hR : RefPols p.rb p.v R w1 w2) : RefTo B p ⟨p.c.pods, cp⟩ G w w1 w2 := by
  obtain ⟨⟨v', r1, r2⟩, hg⟩ := hR
  exact ⟨p.v, v', r1, own_stay m2 fun g hg' => hg.block g (m2.lt g hg').2 (ne_some fun e => by obtain ⟨cu, hcu⟩ := own_ty m2 hg'; exact ty_ne hcu m1 (by decide) e), ⟨R, m3, own_weak r2 hB, fun y hy => .inl (m5 y hy)⟩, fun g e => .inl e, fun g e => .inr (r2.lt g e).1, ⟨hg.os, hg.tape, hg.output⟩, hg.size, fun b hb e1 _ _ => hg.block b hb (ne_some e1)⟩
theorem RefTo.addPod {B : Nat} {p : DPair} {l : List DPod} {ys : List RPol} {G : Nat → Bool} {w w1 w2 : World} (m1 : w1.heap[p.rb]? = some (.cells #[p.v, p.v'] 144 (0, 0))) (m2 : w1.ownsRow B 54 4 p.v p.c.pods.length (p.c.pods.flatMap encPod)) (m3 : ys.map (·.d) = p.c.pols) (m4 : w1.ownsRow B 59 6 p.v' ys.length (ys.flatMap encPol)) (m5 : ∀ y ∈ ys, y.ok w.heap.size (hide w G)) (hR : RefPod p.rb B p.v p.v' l w1 w2) : RefTo B p ⟨l, p.c.pols⟩ G w w1 w2 := by
  obtain ⟨⟨v, r1, r2, r3⟩, hio, hs, fr⟩ := hR
  exact ⟨v, p.v', r1, r2, ⟨ys, m3, own_stay m4 fun g hg' => fr g (m4.lt g hg').2 (fun e => by obtain ⟨cu, hcu⟩ := own_ty m4 hg'; exact ty_ne hcu m1 (by decide) e) (fun e => by obtain ⟨cu, hcu⟩ := own_ty m4 hg'; obtain ⟨cu', hcu'⟩ := own_ty m2 e; exact ty_ne hcu hcu' (by decide) rfl), fun y hy => .inl (m5 y hy)⟩, r3, fun g e => .inl e, hio, hs, fun b hb e1 e2 _ => fr b hb e1 e2⟩
theorem RefTo.addPol {B : Nat} {p : DPair} {q : DPol} {ys : List RPol} {G : Nat → Bool} {w w1 w2 : World} (m1 : w1.heap[p.rb]? = some (.cells #[p.v, p.v'] 144 (0, 0))) (m2 : w1.ownsRow B 54 4 p.v p.c.pods.length (p.c.pods.flatMap encPod)) (m3 : ys.map (·.d) = p.c.pols) (m4 : w1.ownsRow B 59 6 p.v' ys.length (ys.flatMap encPol)) (m5 : ∀ y ∈ ys, y.ok w.heap.size (hide w G)) (hR : RefPol p.rb B p.v p.v' ys q w1 w2) : RefTo B p ⟨p.c.pods, p.c.pols ++ [q]⟩ G w w1 w2 := by
  obtain ⟨⟨v1, x, hx, r1, r2, r3, r4⟩, hio, hs, fr⟩ := hR
  refine ⟨p.v, v1, r1, own_stay m2 fun g hg' => fr g (m2.lt g hg').2 (fun e => by obtain ⟨cu, hcu⟩ := own_ty m2 hg'; exact ty_ne hcu m1 (by decide) e) (fun e => by obtain ⟨cu, hcu⟩ := own_ty m2 hg'; obtain ⟨cu', hcu'⟩ := own_ty m4 e; exact ty_ne hcu hcu' (by decide) rfl), ⟨ys ++ [x], by rw [List.map_append, m3, List.map_cons, List.map_nil, hx], r2, fun y hy => ?_⟩, fun g e => .inl e, r3, hio, hs, fun b hb e1 _ e3 => fr b hb e1 e3⟩
  rcases List.mem_append.1 hy with hy | hy
  · exact .inl (m5 y hy)
  · rw [List.mem_singleton] at hy
    subst hy
    refine .inr (NPol.mono _ _ _ _ y (Sub.hide fun b hb hG => ⟨?_, rfl⟩) (Nat.le_refl _) r4)
    simp only [Bool.or_eq_false_iff, decide_eq_false_iff_not] at hG ⊢
    exact ⟨⟨hG.1, fun e => by have := (m2.lt b e).2; omega⟩, hG.2⟩
theorem StepOk.changed {x : DOp} {wb B : Nat} {vl vd : Value} {Ps : List DPair} {Ds : List DSl} {w W w1 w2 : World} {j : Nat} {p : DPair} {c' : DClu} (h : St wb B vl vd Ps Ds w) (hb : Below w.heap.size w W) (hj : Ps[j]? = some p) (hx : ¬ x.kd = 3) (hr : (right c').1 = 0) (hT : Chg p.tb c' W w1) (hR : RefTo B p c' (GSt wb vl vd Ps) W w1 w2) : StepOk x wb B vl vd Ps Ds w w2 := by
  obtain ⟨p', h1, h2⟩ := St.changed (h.grow hb) hj hr hT hR
  exact ⟨vl, vd, _, Ds, h1, h2.pre hb, by simp, by simp, by omega, fun e => absurd e hx⟩
end Go.Proofs.YtmkjlhplgcifiaaGreat
