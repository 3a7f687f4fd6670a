/-
  palisade.Compile: eight tables in a map.
  Pure: what is right when a pod or a policy comes or goes.
-/
import Derived.Test.YtmkjlhplgcifiaaGreatJ44
import Derived.Test.YtmkjlhplgcifiaaGreatJ29
namespace Go.Proofs.YtmkjlhplgcifiaaGreat
open Go.ChangeShapes Go.WideShapes Go.ChangeAt Go.RowKit
attribute [local simp] World.cell?_grow
attribute [local go_sem] World.cell?_grow
attribute [local simp] World.cell?_alloc_there
attribute [local go_sem] World.cell?_alloc_there
attribute [local go_sem] eqg_blk std_blk eqg_pod std_pod eqg_sel std_sel eqg_prt std_prt
attribute [local go_sem ↓] eql_blk eql_sel neq_sel eql_prt eql_pod
attribute [local go_sem ↓] met_in1 met_in2 met_re1 met_re2
attribute [local go_sem ↓] met_has1 met_has2
attribute [local go_sem ↓] met_bl1 met_bl2
attribute [local go_sem] eqg_row std_row
attribute [local go_sem ↓] neq_row
set_option linter.unusedVariables false
set_option linter.unusedSimpArgs false
theorem update_step (w : World) (r : Nat) (vs : List Value) (hm : MapAt w r vs) (p : Int × Int) (v : Value) (hs : seek p.1 p.2 plist vs 0 = none) (hp : plist[vs.length]? = some p) :
    ∃ W5, (Instr.mapUpdate 92 (.map (some r)) (.agg #[.int .i64 p.1, .int .i64 p.2]) v).run Tryz.prog w = .ok () W5 ∧ w.grownBy W5 (some r) ∧ MapAt W5 r (vs ++ [v]) := by
  refine ⟨_, update_place w r vs hm p.1 p.2 v hs, put_grown w r _, ?_⟩
  have hr : r < w.heap.size := (Array.getElem?_eq_some_iff.1 hm).1
  show (w.heap.setIfInBounds r _)[r]? = _
  rw [Array.getElem?_setIfInBounds_self, if_pos hr, ents_push plist vs 0 p v hp]
  simp
theorem makeMap_any (w : World) : (Instr.makeMap 92 none).run Tryz.prog w = .ok (.map (some w.heap.size)) (w.alloc (.map #[] 0)) := by
  simp [Instr.makeMap, run_underlying und_tabs]
theorem plist_eight : plist.length = 8 := rfl
theorem next8 (k : Nat) (h : k < plist.length) : Value.int .i64 (wrap64 ((k : Int) + 1)) = .int .i64 ((k + 1 : Nat) : Int) := by
  rw [plist_eight] at h
  rw [IntWalk.wrap64_in _ (by omega)]; rfl
theorem meas8 (k : Nat) (h : k < plist.length) : plist.length - (intOf (.int .i64 (wrap64 ((k : Int) + 1)))).toNat < plist.length - (intOf (.int .i64 (k : Int))).toNat := by
  rw [next8 k h]
  show plist.length - (((k + 1 : Nat) : Int)).toNat < plist.length - ((k : Int)).toNat
  rw [Int.toNat_natCast, Int.toNat_natCast]
  omega
theorem right_lens {c : DClu} (h : (right c).1 = 0) : c.pods.length ≤ 8 ∧ c.pols.length ≤ 4 := by
  by_cases h8 : 8 < c.pods.length ∨ 4 < c.pols.length
  · rw [right_many h8] at h; cases h
  · omega
theorem sub_map {w w4 W5 : World} {r n : Nat} {es : Array MapEntry} {cl : Nat} (hb : Below w.heap.size w w4) (hm : w4.heap[r]? = some (.map es cl)) (hg : w4.grownBy W5 (some r)) : Sub (hide w (low n)) (hide W5 (low n)) := fun b o u hu => by
  obtain ⟨h1, h2, h3⟩ := hide_out hu
  rw [hide_cell _ _ _ _ h1]
  exact cell_keep hg hm (cell_to h3 hb)
set_option maxRecDepth 100000 in
set_option maxHeartbeats 4000000 in
theorem become_ok (c : DClu) (tb : Nat) (x0 x1 x2 : Value) (pa qa : Option Addr) (pc qc : Nat) (w : World) (ht : w.heap[tb]? = some (.cells #[x0, x1, x2] 94 (0, 0))) (hp : rdPods w.heap.size w pa c.pods) (hq : rdPols w.heap.size w qa c.pols) (hpc : c.pods.length ≤ pc) (h : (right c).1 = 0) :
    Calls Tryz.prog 34 #[.pointer (some ⟨tb, 0, none⟩), .agg #[.slice pa c.pods.length pc, .slice qa c.pols.length qc]] w
      fun e w' => e = .returned (.tuple #[.int .i64 0, .int .i64 0]) ∧ (∃ u0 u1 u2, w'.heap[tb]? = some (.cells #[u0, u1, u2] 94 (0, 0)) ∧ TabC w'.heap.size (hide w' (low w.heap.size)) u0 u1 u2 c) ∧ w.grownBy w' (some tb) := by
  have HP := hid hp
  have HQ := hid hq
  have HTB := hid ht
  have HC := hid (right_zero h)
  have HE := hid h
  have hl := right_lens h
  have hpl := hl.1
  have hql := hl.2
  have htb : tb < w.heap.size := (Array.getElem?_eq_some_iff.1 ht).1
  have hmm := makeMap_any
  clear hp hq h hl ht
  go_enter Tryz.func34, Tryz.ntmps34
  go_wp2_with (go_at_call 56; refine (right_any c _ _ _ _ _ (rdPods.to HP.out (by repeat (first | exact Below.refl _ _ | assumption | apply Ext.alloc | apply Ext.drewN | apply Ext.drew | refine Ext.trans ?_ (by assumption)))) (rdPols.to HQ.out (by repeat (first | exact Below.refl _ _ | assumption | apply Ext.alloc | apply Ext.drewN | apply Ext.drew | refine Ext.trans ?_ (by assumption)))) hpc).mono ?_; rw [HE.out]; rintro e w1 ⟨rfl, hb1⟩; have k0 : w1.drew.cell? ⟨w.heap.size, 0, none⟩ = some (.slice pa c.pods.length pc) := cell_to (w1 := w1) (by simp [go_sem]) hb1; have k1 : w1.drew.cell? ⟨w.heap.size, 1, none⟩ = some (.slice qa c.pols.length qc) := cell_to (w1 := w1) (by simp [go_sem]) hb1; have m0 : w1.cell? ⟨w.heap.size, 0, none⟩ = some (.slice pa c.pods.length pc) := k0; have m1 : w1.cell? ⟨w.heap.size, 1, none⟩ = some (.slice qa c.pols.length qc) := k1; have HB1 := hid (show Below w.heap.size w w1 from (by repeat (first | exact Below.refl _ _ | assumption | apply Ext.alloc | apply Ext.drewN | apply Ext.drew | refine Ext.trans ?_ (by assumption)))); clear hb1)
  go_region_held3 (fun w' => w'.cell? ⟨w.heap.size, 0, none⟩ = some (.slice pa c.pods.length pc) ∧ w'.cell? ⟨w.heap.size, 1, none⟩ = some (.slice qa c.pols.length qc)) (first | (refine ⟨keep_far (by assumption) ?_, keep_far (by assumption) ?_⟩ <;> (simp only []; omega)) | (refine ⟨keep_far (keep_far (by assumption) ?_) ?_, keep_far (keep_far (by assumption) ?_) ?_⟩ <;> (simp only []; omega)) | go_keep) (first
    | (go_at_call 58; refine (clonePods_any c.pods pa pc w1.drew (rdPods.ext HB1.out.drew HB1.out.size HP.out)).mono ?_; rintro e w3 ⟨⟨a3, c3, rfl, hc3, hr3⟩, hb3⟩; have z0 := cell_to k0 hb3; have z1 := cell_to k1 hb3; have HB3 := hid hb3; have HR3 := hid hr3; clear hb3 hr3)
    | (go_at_call 59; refine (mapPol_any c.pols qa qc w3 (rdPols.ext (HB1.out.drew.trans (HB3.out.mono HB1.out.size)) (Nat.le_trans HB1.out.size HB3.out.size) HQ.out)).mono ?_; rintro e w4 ⟨⟨a4, c4, rfl, hc4, hr4⟩, hb4⟩; have v0 := cell_to z0 hb4; have v1 := cell_to z1 hb4; have HB4 := hid hb4; have HR4 := hid hr4; have hs1 := HB1.out.size; have hs3 : w1.heap.size ≤ w3.heap.size := HB3.out.size; have n0 : w4.heap[tb]? = some (.cells #[x0, x1, x2] 94 (0, 0)) := (hb4.block _ (by omega)).trans ((HB3.out.block _ (by show _ < w1.heap.size; omega)).trans ((HB1.out.block _ htb).trans HTB.out)); have l0 : w4.cell? ⟨tb, 0, none⟩ = some x0 := (blk_cell n0 0).trans rfl; have l1 : w4.cell? ⟨tb, 1, none⟩ = some x1 := (blk_cell n0 1).trans rfl; have l2 : w4.cell? ⟨tb, 2, none⟩ = some x2 := (blk_cell n0 2).trans rfl; have lf := blk_frozen n0; have N0 := hid n0; clear hb4 hr4 n0))
  have hs4 : w3.heap.size ≤ w4.heap.size := HB4.out.size
  have hX0 : ((w4.setCell ⟨tb, 0, none⟩ (.slice a3 c.pods.length c3)).setCell ⟨tb, 1, none⟩ (.slice a4 c.pols.length c4)).heap[tb]? = some (.cells #[.slice a3 c.pods.length c3, .slice a4 c.pols.length c4, x2] 94 (0, 0)) := (set_blk (set_blk N0.out 0 _) 1 _).trans rfl
  have hXg : w.grownBy ((w4.setCell ⟨tb, 0, none⟩ (.slice a3 c.pods.length c3)).setCell ⟨tb, 1, none⟩ (.slice a4 c.pols.length c4)) (some tb) := gb_set (gb_set (gb_below (gb_refl w (some tb)) (HB1.out.drew.trans ((HB3.out.mono hs1).trans (HB4.out.mono (Nat.le_trans hs1 hs3))))) 0 _) 1 _
  have hXp : rdPods ((w4.setCell ⟨tb, 0, none⟩ (.slice a3 c.pods.length c3)).setCell ⟨tb, 1, none⟩ (.slice a4 c.pols.length c4)).heap.size (hide ((w4.setCell ⟨tb, 0, none⟩ (.slice a3 c.pods.length c3)).setCell ⟨tb, 1, none⟩ (.slice a4 c.pols.length c4)) (low w.heap.size)) a3 c.pods := by
    refine rdPods.sub ?_ (by simpa using hs4) HR3.out
    iterate 2 refine Sub.trans ?_ (Sub.set _ _ (by simp only [low, decide_eq_true_eq]; omega))
    exact (Sub.low (m := w1.heap.size) hs1).trans (Sub.grow HB4.out)
  have hXq : rdPols ((w4.setCell ⟨tb, 0, none⟩ (.slice a3 c.pods.length c3)).setCell ⟨tb, 1, none⟩ (.slice a4 c.pols.length c4)).heap.size (hide ((w4.setCell ⟨tb, 0, none⟩ (.slice a3 c.pods.length c3)).setCell ⟨tb, 1, none⟩ (.slice a4 c.pols.length c4)) (low w.heap.size)) a4 c.pols := by
    refine rdPols.sub ?_ (by simp) HR4.out
    iterate 2 refine Sub.trans ?_ (Sub.set _ _ (by simp only [low, decide_eq_true_eq]; omega))
    exact Sub.low (m := w3.heap.size) (Nat.le_trans hs1 hs3)
  generalize (w4.setCell ⟨tb, 0, none⟩ (.slice a3 c.pods.length c3)).setCell ⟨tb, 1, none⟩ (.slice a4 c.pols.length c4) = X at hX0 hXg hXp hXq ⊢
  have HX0 := hid hX0
  have HXG := hid hXg
  have HXP := hid hXp
  have HXQ := hid hXq
  have hXs := hXg.size
  have t2 : X.cell? ⟨tb, 2, none⟩ = some x2 := (blk_cell hX0 2).trans rfl
  have tf : ∀ o, (X.alloc (.map #[] 0)).frozen? ⟨tb, o, none⟩ = false := blk_frozen ((Below.heap_alloc _ _ _ (by omega)).trans hX0)
  have t3 : (X.alloc (.map #[] 0)).cell? ⟨tb, 2, none⟩ = some x2 := cell_past t2
  clear k0 k1 m0 m1 z0 z1 v0 v1 l0 l1 l2 lf HB1 HB3 HB4 HR3 HR4 N0 hs1 hs3 hs4 hX0 hXg hXp hXq
  go_wp2_with (go_at_call 39; refine (places_any _).mono ?_; rintro e w2 ⟨⟨la, lc, rfl, hl2⟩, hb2⟩; have HL := hid hl2; have HB2 := hid hb2; clear hl2 hb2)
  have hs2 : X.heap.size + 1 ≤ w2.heap.size := by have := HB2.out.size; simpa using this
  have y0 : w2.heap[tb]? = some (.cells #[.slice a3 c.pods.length c3, .slice a4 c.pols.length c4, .map (some X.heap.size)] 94 (0, 0)) := (HB2.out.block tb (by simp; omega)).trans ((set_blk ((Below.heap_alloc _ _ _ (by omega)).trans HX0.out) 2 _).trans rfl)
  have m0 : MapAt w2 X.heap.size [] := by
    show w2.heap[X.heap.size]? = _
    rw [HB2.out.block _ (by simp), Below.heap_setCell _ _ _ _ (by show X.heap.size ≠ tb; omega)]
    show (X.heap.push _)[X.heap.size]? = _
    simp [ents]
  have hblk : ∀ b, b < X.heap.size → b ≠ tb → w2.heap[b]? = X.heap[b]? := fun b hb hne => (HB2.out.block b (by simp; omega)).trans ((Below.heap_setCell _ _ _ _ hne).trans (Below.heap_alloc _ _ _ hb))
  have hg2 : w.grownBy w2 (some tb) := gb_below (gb_set (gb_below HXG.out ((Below.refl _ X).alloc (Nat.le_refl _) _)) 2 _) HB2.out
  have HPS := hid (show ∀ W : World, (∀ b, b < X.heap.size → w.heap.size ≤ b → W.heap[b]? = X.heap[b]?) → X.heap.size ≤ W.heap.size → rdPods W.heap.size (hide W (low w.heap.size)) a3 c.pods ∧ rdPols W.heap.size (hide W (low w.heap.size)) a4 c.pols from fun W hW hr =>
    ⟨rdPods.subB (SubB.hide fun b hb hG => ⟨hG, hW b hb (low_false.1 hG)⟩) hr HXP.out, rdPols.subB (SubB.hide fun b hb hG => ⟨hG, hW b hb (low_false.1 hG)⟩) hr HXQ.out⟩)
  have HBL := hid (show ∀ b, b < X.heap.size → w.heap.size ≤ b → w2.heap[b]? = X.heap[b]? from fun b hb hn => hblk b hb (by omega))
  have HY := hid y0
  have M0 := hid m0
  have HG2 := hid hg2
  obtain ⟨r, hr⟩ : ∃ r, r = X.heap.size := ⟨_, rfl⟩
  rw [← hr] at HPS HBL HY M0 hs2 hXs ⊢
  clear t2 t3 tf y0 m0 hblk hg2 HB2 HX0 HXG HXP HXQ hmm hr
  have H8 := hid (show plist.length = 8 from rfl)
  go_loopw [35] (fun i wr => ∃ (k : Nat) (vs : List Value), k ≤ plist.length ∧ i = .int .i64 k ∧ vs.length = k ∧ MapAt wr r vs ∧ w2.grownBy wr (some r) ∧ ∀ (i : Nat) (p : Int × Int) (v : Value), plist[i]? = some p → vs[i]? = some v → TabV wr.heap.size (hide wr (low w.heap.size)) c p v) (fun i _ => plist.length - (intOf i).toNat)
  case atStart => exact ⟨0, [], Nat.zero_le _, rfl, rfl, M0.out, gb_refl _ _, fun i p v _ hv => by simp at hv⟩
  case round =>
    obtain ⟨k, vs, hk, rfl, hvl, hm, hg, hT⟩ := hrel
    have HM := hid hm
    have HG := hid hg
    have HT := hid hT
    have hgs := hg.size
    have HRB := hid (show ∀ b, b < r → w.heap.size ≤ b → wr.heap[b]? = X.heap[b]? from fun b hb hn => (hg.block b (by omega) (fun e => by cases e; omega)).trans (HBL.out b hb hn))
    have yb : wr.heap[tb]? = some (.cells #[.slice a3 c.pods.length c3, .slice a4 c.pols.length c4, .map (some r)] 94 (0, 0)) := (hg.block tb (by omega) (fun e => by cases e; omega)).trans HY.out
    have HYB := hid yb
    have tc' : wr.cell? ⟨tb, 2, none⟩ = some (.map (some r)) := (blk_cell yb 2).trans rfl
    have kc0' : wr.cell? ⟨tb, 0, none⟩ = some (.slice a3 c.pods.length c3) := (blk_cell yb 0).trans rfl
    have kc1' : wr.cell? ⟨tb, 1, none⟩ = some (.slice a4 c.pols.length c4) := (blk_cell yb 1).trans rfl
    clear hm hT yb
    by_cases hlt : k < plist.length
    · obtain ⟨p, hpk⟩ : ∃ p, plist[k]? = some p := ⟨plist[k], by simp [hlt]⟩
      have HPK := hid hpk
      have hway : p.2 = 1 ∨ p.2 = 2 := by have := plist_way ⟨k, by have := H8.out; omega⟩; rw [hpk] at this; exact this
      have hsk : seek p.1 p.2 plist vs 0 = none := seek_none _ _ _ _ _ fun j q hj hq => by
        have := plist_ne ⟨k, by have := H8.out; omega⟩ ⟨j, by have := H8.out; omega⟩ (show j < k by omega)
        rw [hpk, hq] at this; exact this
      have HSK := hid hsk
      obtain ⟨b, off, rfl, hb, c0, c1⟩ := HL.out.2 k p hpk
      have d0 := cell_keep hg M0.out c0
      have d1 := cell_keep hg M0.out c1
      clear hpk hsk c0 c1 hg
      go_wp2
      have x0 : (wr.alloc (.cells #[.int .i64 p.1, .int .i64 p.2] 99)).drew.cell? ⟨wr.heap.size, 0, none⟩ = some (.int .i64 p.1) := by simp [go_sem]
      have x1 : (wr.alloc (.cells #[.int .i64 p.1, .int .i64 p.2] 99)).drew.cell? ⟨wr.heap.size, 1, none⟩ = some (.int .i64 p.2) := by simp [go_sem]
      have x2 : (wr.alloc (.cells #[.int .i64 p.1, .int .i64 p.2] 99)).drew.cell? ⟨tb, 2, none⟩ = some (.map (some r)) := cell_past tc'
      have x3 : (wr.alloc (.cells #[.int .i64 p.1, .int .i64 p.2] 99)).drew.cell? ⟨tb, 0, none⟩ = some (.slice a3 c.pods.length c3) := cell_past kc0'
      have x4 : (wr.alloc (.cells #[.int .i64 p.1, .int .i64 p.2] 99)).drew.cell? ⟨tb, 1, none⟩ = some (.slice a4 c.pols.length c4) := cell_past kc1'
      have hX : Below wr.heap.size wr (wr.alloc (.cells #[.int .i64 p.1, .int .i64 p.2] 99)).drew := ((Below.refl _ wr).alloc (Nat.le_refl _) _).drew
      have hXs : (wr.alloc (.cells #[.int .i64 p.1, .int .i64 p.2] 99)).drew.heap.size = wr.heap.size + 1 := World.size_alloc _ _
      have y0 : (wr.alloc (.cells #[.int .i64 p.1, .int .i64 p.2] 99)).cell? ⟨wr.heap.size, 0, none⟩ = some (.int .i64 p.1) := x0
      have y1 : (wr.alloc (.cells #[.int .i64 p.1, .int .i64 p.2] 99)).cell? ⟨wr.heap.size, 1, none⟩ = some (.int .i64 p.2) := x1
      have y2 : (wr.alloc (.cells #[.int .i64 p.1, .int .i64 p.2] 99)).cell? ⟨tb, 2, none⟩ = some (.map (some r)) := x2
      have y3 : (wr.alloc (.cells #[.int .i64 p.1, .int .i64 p.2] 99)).cell? ⟨tb, 0, none⟩ = some (.slice a3 c.pods.length c3) := x3
      have y4 : (wr.alloc (.cells #[.int .i64 p.1, .int .i64 p.2] 99)).cell? ⟨tb, 1, none⟩ = some (.slice a4 c.pols.length c4) := x4
      generalize wr.alloc (.cells #[.int .i64 p.1, .int .i64 p.2] 99) = WX at x0 x1 x2 x3 x4 hX hXs y0 y1 y2 y3 y4 ⊢
      have HX := hid hX
      have HPX := hid (HPS.out WX.drew (fun b hb hn => (hX.block b (by omega)).trans (HRB.out b hb hn)) (by omega))
      clear tc' kc0' kc1' d0 d1 hX
      go_region_held3 (fun w' => w'.cell? ⟨tb, 2, none⟩ = some (.map (some r)) ∧ w'.cell? ⟨wr.heap.size, 0, none⟩ = some (.int .i64 p.1) ∧ w'.cell? ⟨wr.heap.size, 1, none⟩ = some (.int .i64 p.2) ∧ w'.cell? ⟨tb, 0, none⟩ = some (.slice a3 c.pods.length c3) ∧ w'.cell? ⟨tb, 1, none⟩ = some (.slice a4 c.pols.length c4)) (go_keep) (first
        | (go_at_call 61; refine (make_any c p.1 p.2 hway a3 a4 c3 c4 WX.drew (rdPods.sub (Sub.show _ _) (Nat.le_refl _) HPX.out.1) (rdPols.sub (Sub.show _ _) (Nat.le_refl _) HPX.out.2) HC.out hpl hql).mono ?_; rintro e w4 ⟨⟨a5, cc4, n4, rfl, hT4⟩, hb4⟩; have hm4 : MapAt w4 r vs := (hb4.block r (by omega)).trans ((HX.out.block r (by omega)).trans HM.out); obtain ⟨W5, hmu, hg5, hm5⟩ := update_step w4 r vs hm4 p (.slice (some a5) n4 cc4) HSK.out (by rw [hvl]; exact HPK.out); have z0 := cell_to x0 hb4; have z1 := cell_to x1 hb4; have z2 := cell_to x2 hb4; have z3 := cell_to x3 hb4; have z4 := cell_to x4 hb4; have q0 := cell_keep hg5 hm4 z0; have q1 := cell_keep hg5 hm4 z1; have q2 := cell_keep hg5 hm4 z2; have q3 := cell_keep hg5 hm4 z3; have q4 := cell_keep hg5 hm4 z4; have HT4 := hid hT4; have HB4 := hid hb4; have HM4 := hid hm4; have HG5 := hid hg5; have HM5 := hid hm5; clear hT4 hb4 hm4 hg5 hm5))
      go_wp2
      go_roundw
      case measure => exact meas8 k hlt
      case rel =>
        have h1 := HB4.out.size
        have h2 := HG5.out.size
        refine ⟨k + 1, vs ++ [.slice (some a5) n4 cc4], hlt, next8 k hlt, by simp [hvl], HM5.out, ?_, ?_⟩
        · exact ⟨HG5.out.os.trans (HB4.out.os.trans (HX.out.os.trans HG.out.os)), HG5.out.tape.trans (HB4.out.tape.trans (HX.out.tape.trans HG.out.tape)), HG5.out.output.trans (HB4.out.output.trans (HX.out.output.trans HG.out.output)), by omega, fun b' hb' hne => (HG5.out.block b' (by omega) hne).trans ((HB4.out.block b' (by omega)).trans ((HX.out.block b' (by omega)).trans (HG.out.block b' hb' hne)))⟩
        · intro i q v hq hv
          rcases Nat.lt_or_ge i vs.length with h | h
          · rw [List.getElem?_append_left h] at hv
            exact (HT.out i q v hq hv).sub (sub_map (HX.out.trans (HB4.out.mono (by omega))) HM4.out HG5.out) (by omega)
          · rw [List.getElem?_append_right h] at hv
            have e : i = k := by
              rcases Nat.lt_or_ge (i - vs.length) 1 with h' | h'
              · omega
              · rw [List.getElem?_eq_none (by simpa using h')] at hv; cases hv
            subst e
            rw [hvl] at hv
            simp at hv
            rw [HPK.out] at hq
            cases hq
            subst hv
            exact HT4.out.sub ((Sub.low (m := WX.drew.heap.size) (by omega)).trans (sub_map (Below.refl _ _) HM4.out HG5.out)) h2
    · have hk8 : k = plist.length := by omega
      have HPX := hid (HPS.out wr HRB.out (by omega))
      go_wp2
      go_ret2
      exact ⟨rfl, ⟨_, _, _, HYB.out, r, vs, a3, a4, c3, c4, rfl, rfl, rfl, by omega, hc3, hc4, HPX.out.1, HPX.out.2, (hide_block _ _ _ (low_false.2 hXs)).trans HM.out, by have := H8.out; omega, HT.out⟩, gb_row HG2.out HG.out (fun g hg => by cases hg; omega)⟩
end Go.Proofs.YtmkjlhplgcifiaaGreat
namespace Go.Proofs.YtmkjlhplgcifiaaGreat
open Go.ChangeShapes Go.WideShapes Go.ChangeAt Go.RowKit
attribute [local simp] World.cell?_grow
attribute [local go_sem] World.cell?_grow
attribute [local simp] World.cell?_alloc_there
attribute [local go_sem] World.cell?_alloc_there
attribute [local go_sem] eqg_blk std_blk eqg_pod std_pod eqg_sel std_sel eqg_prt std_prt
attribute [local go_sem ↓] eql_blk eql_sel neq_sel eql_prt eql_pod
attribute [local go_sem ↓] met_in1 met_in2 met_re1 met_re2
attribute [local go_sem ↓] met_has1 met_has2
attribute [local go_sem ↓] met_bl1 met_bl2
attribute [local go_sem] eqg_row std_row
attribute [local go_sem ↓] neq_row
set_option linter.unusedVariables false
set_option linter.unusedSimpArgs false
theorem podsOk_good {l : List DPod} (h : podsOk l) (i : Nat) : podGood l i = true := by
  unfold podGood
  split
  · rfl
  · rename_i p hp
    rw [Bool.and_eq_true, List.all_eq_true]
    refine ⟨h.1 p (List.mem_of_getElem? hp), fun q hq => ?_⟩
    obtain ⟨j, hj, rfl⟩ := List.mem_take_iff_getElem.1 hq
    obtain ⟨hi, rfl⟩ := List.getElem?_eq_some_iff.1 hp
    have := (List.pairwise_iff_getElem.1 h.2) j i (by omega) hi (by omega)
    simpa using this
theorem right_of_ok {c : DClu} (h : cluOk c) (h1 : c.pods.length ≤ 8) (h2 : c.pols.length ≤ 4) : right c = (0, 0) := right_good ⟨h1, podsOk_good h.1⟩ h2 h.2
theorem polGood_left {l : List DPol} {p : DPol} {j : Nat} (hj : j < l.length) : polGood (l ++ [p]) j = polGood l j := by
  unfold polGood
  rw [List.getElem?_append_left hj]
theorem polGood_last {l : List DPol} {p : DPol} : polGood (l ++ [p]) l.length = polOk p := by
  unfold polGood
  rw [List.getElem?_append_right (Nat.le_refl _), Nat.sub_self, List.getElem?_cons_zero]
theorem polsOk_good {l : List DPol} (h : ∀ q ∈ l, polOk q = true) (i : Nat) : polGood l i = true := by
  unfold polGood
  split
  · rfl
  · rename_i q hq
    exact h q (List.mem_of_getElem? hq)
/-- a policy more -/
theorem right_addPol {c : DClu} (h : (right c).1 = 0) (q : DPol) :
    right ⟨c.pods, c.pols ++ [q]⟩ = if 4 ≤ c.pols.length then (1, 0) else if polOk q = true then (0, 0) else (3, (c.pols.length : Int)) := by
  obtain ⟨l1, l2⟩ := right_lens h
  have hc := right_zero h
  split
  · exact right_many (Or.inr (by simp; omega))
  · rename_i h8
    split
    · rename_i hp
      exact right_good ⟨l1, podsOk_good hc.1⟩ (by simp; omega) fun x hx => by
        rcases List.mem_append.1 hx with hx | hx
        · exact hc.2 x hx
        · rw [List.mem_singleton] at hx; subst hx; exact hp
    · rename_i hp
      refine right_pol (by simp; omega) (firstBad_none fun j _ => podsOk_good hc.1 j) (firstBad_some (fun j hj => ?_) (by simp) ?_)
      · show polGood (c.pols ++ [q]) j = true
        rw [polGood_left hj]; exact polsOk_good hc.2 j
      · show polGood (c.pols ++ [q]) c.pols.length = false
        rw [polGood_last]; simpa using hp
end Go.Proofs.YtmkjlhplgcifiaaGreat
