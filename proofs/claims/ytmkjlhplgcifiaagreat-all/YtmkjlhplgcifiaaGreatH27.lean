/-
  palisade.Compile: eight tables in a map.
-/
import Derived.Test.YtmkjlhplgcifiaaGreatH26
import Derived.Test.YtmkjlhplgcifiaaGreatH19
namespace Go.Proofs.YtmkjlhplgcifiaaGreat
open Go.ChangeShapes Go.WideShapes Go.ChangeAt Go.RowKit
set_option linter.unusedVariables false
set_option linter.unusedSimpArgs false
attribute [local simp] World.cell?_grow World.cell?_alloc_there
attribute [local go_sem] World.cell?_grow World.cell?_alloc_there eqg_blk std_blk eqg_pod std_pod eqg_sel std_sel eqg_prt std_prt eqg_row std_row
attribute [local go_sem ↓] eql_blk eql_sel neq_sel eql_prt eql_pod met_in1 met_in2 met_re1 met_re2 met_has1 met_has2 met_bl1 met_bl2 neq_row
theorem become_err (c : DClu) (tb : Nat) (pa qa : Option Addr) (pc qc : Nat) (w : World) (hp : rdPods w.heap.size w pa c.pods) (hq : rdPols w.heap.size w qa c.pols) (hpc : c.pods.length ≤ pc) (h : ¬ (right c).1 = 0) :
    Calls Tryz.prog 34 #[.pointer (some ⟨tb, 0, none⟩), .agg #[.slice pa c.pods.length pc, .slice qa c.pols.length qc]] w fun e w' => e = .returned (.tuple #[.int .i64 (right c).1, .int .i64 (right c).2]) ∧ Below w.heap.size w w' := by
  have HP := hid hp
  have HQ := hid hq
  have h2 : ((right c).1 != 0) = true := by simp [h]
  clear hp hq h
  go_enter Tryz.func34, Tryz.ntmps34
  go_wp2_with (go_at_call 56; refine (right_any c _ _ _ _ _ (rdPods.to HP.out bel) (rdPols.to HQ.out bel) hpc).mono ?_; rintro e w1 ⟨rfl, hb1⟩; obtain ⟨hc1, hf1⟩ := bcell hb1; have hz1 := hb_lt hb1)
  go_ret2
  exact ⟨rfl, bel⟩
theorem update_step (w : World) (r : Nat) (vs : List Value) (hm : MapAt w r vs) (p : Int × Int) (v : Value) (hs : seek p.1 p.2 plist vs 0 = none) (hp : plist[vs.length]? = some p) :
    ∃ W5, (Instr.mapUpdate 92 (.map (some r)) (.agg #[.int .i64 p.1, .int .i64 p.2]) v).run Tryz.prog w = .ok () W5 ∧ w.grownBy W5 (some r) ∧ MapAt W5 r (vs ++ [v]) := by
  refine ⟨_, update_place w r vs hm p.1 p.2 v hs, put_grown w r _, ?_⟩
  have hr : r < w.heap.size := (Array.getElem?_eq_some_iff.1 hm).1
  show (w.heap.setIfInBounds r _)[r]? = _
  rw [Array.getElem?_setIfInBounds_self, if_pos hr, ents_push plist vs 0 p v hp]
  simp
theorem makeMap_any (w : World) : (Instr.makeMap 92 none).run Tryz.prog w = .ok (.map (some w.heap.size)) (w.alloc (.map #[] 0)) := by
  simp [Instr.makeMap, run_underlying und_tabs]
theorem plist_eight : plist.length = 8 := rfl
theorem next8 (k : Nat) (h : k < plist.length) : Value.int .i64 (wrap64 ((k : Int) + 1)) = .int .i64 ((k + 1 : Nat) : Int) := by
  rw [plist_eight] at h
  rw [IntWalk.wrap64_in _ (by omega)]; rfl
theorem meas8 (k : Nat) (h : k < plist.length) : plist.length - (intOf (.int .i64 (wrap64 ((k : Int) + 1)))).toNat < plist.length - (intOf (.int .i64 (k : Int))).toNat := by
  rw [next8 k h]
  show plist.length - (((k + 1 : Nat) : Int)).toNat < plist.length - ((k : Int)).toNat
  rw [Int.toNat_natCast, Int.toNat_natCast]
  omega
theorem right_lens {c : DClu} (h : (right c).1 = 0) : c.pods.length ≤ 8 ∧ c.pols.length ≤ 4 := by
  by_cases h8 : 8 < c.pods.length ∨ 4 < c.pols.length
  · rw [right_many h8] at h; cases h
  · omega
theorem sub_map {w w4 W5 : World} {r n : Nat} {es : Array MapEntry} {cl : Nat} (hb : Below w.heap.size w w4) (hm : w4.heap[r]? = some (.map es cl)) (hg : w4.grownBy W5 (some r)) : Sub (hide w (low n)) (hide W5 (low n)) := fun b o u hu => by
  obtain ⟨h1, h2, h3⟩ := hide_out hu
  rw [hide_cell _ _ _ _ h1]
  exact cell_keep hg hm (cell_to h3 hb)
set_option maxRecDepth 100000 in
set_option maxHeartbeats 4000000 in
theorem become_ok (c : DClu) (tb : Nat) (x0 x1 x2 : Value) (pa qa : Option Addr) (pc qc : Nat) (w : World) (ht : w.heap[tb]? = some (.cells #[x0, x1, x2] 94 (0, 0))) (hp : rdPods w.heap.size w pa c.pods) (hq : rdPols w.heap.size w qa c.pols) (hpc : c.pods.length ≤ pc) (h : (right c).1 = 0) :
    Calls Tryz.prog 34 #[.pointer (some ⟨tb, 0, none⟩), .agg #[.slice pa c.pods.length pc, .slice qa c.pols.length qc]] w
      fun e w' => e = .returned (.tuple #[.int .i64 0, .int .i64 0]) ∧ (∃ u0 u1 u2, w'.heap[tb]? = some (.cells #[u0, u1, u2] 94 (0, 0)) ∧ TabC w'.heap.size (hide w' (low w.heap.size)) u0 u1 u2 c) ∧ w.grownBy w' (some tb) := by
  have HP := hid hp
  have HQ := hid hq
  have HTB := hid ht
  have HC := hid (right_zero h)
  have HE := hid h
  have hl := right_lens h
  have hpl := hl.1
  have hql := hl.2
  have htb : tb < w.heap.size := (Array.getElem?_eq_some_iff.1 ht).1
  have hmm := makeMap_any
  clear hp hq h hl ht
  go_enter Tryz.func34, Tryz.ntmps34
  go_wp2_with (go_at_call 56; refine (right_any c _ _ _ _ _ (rdPods.to HP.out bel) (rdPols.to HQ.out bel) hpc).mono ?_; rw [HE.out]; rintro e w1 ⟨rfl, hb1⟩; have k0 : w1.drew.cell? ⟨w.heap.size, 0, none⟩ = some (.slice pa c.pods.length pc) := cell_to (w1 := w1) (by simp [go_sem]) hb1; have k1 : w1.drew.cell? ⟨w.heap.size, 1, none⟩ = some (.slice qa c.pols.length qc) := cell_to (w1 := w1) (by simp [go_sem]) hb1; have m0 : w1.cell? ⟨w.heap.size, 0, none⟩ = some (.slice pa c.pods.length pc) := k0; have m1 : w1.cell? ⟨w.heap.size, 1, none⟩ = some (.slice qa c.pols.length qc) := k1; have HB1 := hid (show Below w.heap.size w w1 from bel); clear hb1)
  go_region_held3 (fun w' => w'.cell? ⟨w.heap.size, 0, none⟩ = some (.slice pa c.pods.length pc) ∧ w'.cell? ⟨w.heap.size, 1, none⟩ = some (.slice qa c.pols.length qc)) (first | (refine ⟨keep_far (by assumption) ?_, keep_far (by assumption) ?_⟩ <;> (simp only []; omega)) | (refine ⟨keep_far (keep_far (by assumption) ?_) ?_, keep_far (keep_far (by assumption) ?_) ?_⟩ <;> (simp only []; omega)) | go_keep) (first
    | (go_at_call 58; refine (clonePods_any c.pods pa pc w1.drew (rdPods.ext HB1.out.drew HB1.out.size HP.out)).mono ?_; rintro e w3 ⟨⟨a3, c3, rfl, hc3, hr3⟩, hb3⟩; have z0 := cell_to k0 hb3; have z1 := cell_to k1 hb3; have HB3 := hid hb3; have HR3 := hid hr3; clear hb3 hr3)
    | (go_at_call 59; refine (mapPol_any c.pols qa qc w3 (rdPols.ext (HB1.out.drew.trans (HB3.out.mono HB1.out.size)) (Nat.le_trans HB1.out.size HB3.out.size) HQ.out)).mono ?_; rintro e w4 ⟨⟨a4, c4, rfl, hc4, hr4⟩, hb4⟩; have v0 := cell_to z0 hb4; have v1 := cell_to z1 hb4; have HB4 := hid hb4; have HR4 := hid hr4; have hs1 := HB1.out.size; have hs3 : w1.heap.size ≤ w3.heap.size := HB3.out.size; have n0 : w4.heap[tb]? = some (.cells #[x0, x1, x2] 94 (0, 0)) := (hb4.block _ (by omega)).trans ((HB3.out.block _ (by show _ < w1.heap.size; omega)).trans ((HB1.out.block _ htb).trans HTB.out)); have l0 : w4.cell? ⟨tb, 0, none⟩ = some x0 := (blk_cell n0 0).trans rfl; have l1 : w4.cell? ⟨tb, 1, none⟩ = some x1 := (blk_cell n0 1).trans rfl; have l2 : w4.cell? ⟨tb, 2, none⟩ = some x2 := (blk_cell n0 2).trans rfl; have lf := blk_frozen n0; have N0 := hid n0; clear hb4 hr4 n0))
  have hs4 : w3.heap.size ≤ w4.heap.size := HB4.out.size
  have hX0 : ((w4.setCell ⟨tb, 0, none⟩ (.slice a3 c.pods.length c3)).setCell ⟨tb, 1, none⟩ (.slice a4 c.pols.length c4)).heap[tb]? = some (.cells #[.slice a3 c.pods.length c3, .slice a4 c.pols.length c4, x2] 94 (0, 0)) := (set_blk (set_blk N0.out 0 _) 1 _).trans rfl
  have hXg : w.grownBy ((w4.setCell ⟨tb, 0, none⟩ (.slice a3 c.pods.length c3)).setCell ⟨tb, 1, none⟩ (.slice a4 c.pols.length c4)) (some tb) := gb_set (gb_set (gb_below (gb_refl w (some tb)) (HB1.out.drew.trans ((HB3.out.mono hs1).trans (HB4.out.mono (Nat.le_trans hs1 hs3))))) 0 _) 1 _
  have hXp : rdPods ((w4.setCell ⟨tb, 0, none⟩ (.slice a3 c.pods.length c3)).setCell ⟨tb, 1, none⟩ (.slice a4 c.pols.length c4)).heap.size (hide ((w4.setCell ⟨tb, 0, none⟩ (.slice a3 c.pods.length c3)).setCell ⟨tb, 1, none⟩ (.slice a4 c.pols.length c4)) (low w.heap.size)) a3 c.pods := by
    refine rdPods.sub ?_ (by simpa using hs4) HR3.out
    iterate 2 refine Sub.trans ?_ (Sub.set _ _ (by simp only [low, decide_eq_true_eq]; omega))
    exact (Sub.low (m := w1.heap.size) hs1).trans (Sub.grow HB4.out)
  have hXq : rdPols ((w4.setCell ⟨tb, 0, none⟩ (.slice a3 c.pods.length c3)).setCell ⟨tb, 1, none⟩ (.slice a4 c.pols.length c4)).heap.size (hide ((w4.setCell ⟨tb, 0, none⟩ (.slice a3 c.pods.length c3)).setCell ⟨tb, 1, none⟩ (.slice a4 c.pols.length c4)) (low w.heap.size)) a4 c.pols := by
    refine rdPols.sub ?_ (by simp) HR4.out
    iterate 2 refine Sub.trans ?_ (Sub.set _ _ (by simp only [low, decide_eq_true_eq]; omega))
    exact Sub.low (m := w3.heap.size) (Nat.le_trans hs1 hs3)
  generalize (w4.setCell ⟨tb, 0, none⟩ (.slice a3 c.pods.length c3)).setCell ⟨tb, 1, none⟩ (.slice a4 c.pols.length c4) = X at hX0 hXg hXp hXq ⊢
  have HX0 := hid hX0
  have HXG := hid hXg
  have HXP := hid hXp
  have HXQ := hid hXq
  have hXs := hXg.size
  have t2 : X.cell? ⟨tb, 2, none⟩ = some x2 := (blk_cell hX0 2).trans rfl
  have tf : ∀ o, (X.alloc (.map #[] 0)).frozen? ⟨tb, o, none⟩ = false := blk_frozen ((Below.heap_alloc _ _ _ (by omega)).trans hX0)
  have t3 : (X.alloc (.map #[] 0)).cell? ⟨tb, 2, none⟩ = some x2 := cell_past t2
  clear k0 k1 m0 m1 z0 z1 v0 v1 l0 l1 l2 lf HB1 HB3 HB4 HR3 HR4 N0 hs1 hs3 hs4 hX0 hXg hXp hXq
  go_wp2_with (go_at_call 39; refine (places_any _).mono ?_; rintro e w2 ⟨⟨la, lc, rfl, hl2⟩, hb2⟩; have HL := hid hl2; have HB2 := hid hb2; clear hl2 hb2)
  have hs2 : X.heap.size + 1 ≤ w2.heap.size := by have := HB2.out.size; simpa using this
  have y0 : w2.heap[tb]? = some (.cells #[.slice a3 c.pods.length c3, .slice a4 c.pols.length c4, .map (some X.heap.size)] 94 (0, 0)) := (HB2.out.block tb (by simp; omega)).trans ((set_blk ((Below.heap_alloc _ _ _ (by omega)).trans HX0.out) 2 _).trans rfl)
  have m0 : MapAt w2 X.heap.size [] := by
    show w2.heap[X.heap.size]? = _
    rw [HB2.out.block _ (by simp), Below.heap_setCell _ _ _ _ (by show X.heap.size ≠ tb; omega)]
    show (X.heap.push _)[X.heap.size]? = _
    simp [ents]
  have hblk : ∀ b, b < X.heap.size → b ≠ tb → w2.heap[b]? = X.heap[b]? := fun b hb hne => (HB2.out.block b (by simp; omega)).trans ((Below.heap_setCell _ _ _ _ hne).trans (Below.heap_alloc _ _ _ hb))
  have hg2 : w.grownBy w2 (some tb) := gb_below (gb_set (gb_below HXG.out ((Below.refl _ X).alloc (Nat.le_refl _) _)) 2 _) HB2.out
  have HPS := hid (show ∀ W : World, (∀ b, b < X.heap.size → w.heap.size ≤ b → W.heap[b]? = X.heap[b]?) → X.heap.size ≤ W.heap.size → rdPods W.heap.size (hide W (low w.heap.size)) a3 c.pods ∧ rdPols W.heap.size (hide W (low w.heap.size)) a4 c.pols from fun W hW hr =>
    ⟨rdPods.subB (SubB.hide fun b hb hG => ⟨hG, hW b hb (low_false.1 hG)⟩) hr HXP.out, rdPols.subB (SubB.hide fun b hb hG => ⟨hG, hW b hb (low_false.1 hG)⟩) hr HXQ.out⟩)
  have HBL := hid (show ∀ b, b < X.heap.size → w.heap.size ≤ b → w2.heap[b]? = X.heap[b]? from fun b hb hn => hblk b hb (by omega))
  have HY := hid y0
  have M0 := hid m0
  have HG2 := hid hg2
  obtain ⟨r, hr⟩ : ∃ r, r = X.heap.size := ⟨_, rfl⟩
  rw [← hr] at HPS HBL HY M0 hs2 hXs ⊢
  clear t2 t3 tf y0 m0 hblk hg2 HB2 HX0 HXG HXP HXQ hmm hr
  have H8 := hid (show plist.length = 8 from rfl)
  go_loopw [35] (fun i wr => ∃ (k : Nat) (vs : List Value), k ≤ plist.length ∧ i = .int .i64 k ∧ vs.length = k ∧ MapAt wr r vs ∧ w2.grownBy wr (some r) ∧ ∀ (i : Nat) (p : Int × Int) (v : Value), plist[i]? = some p → vs[i]? = some v → TabV wr.heap.size (hide wr (low w.heap.size)) c p v) (fun i _ => plist.length - (intOf i).toNat)
  case atStart => exact ⟨0, [], Nat.zero_le _, rfl, rfl, M0.out, gb_refl _ _, fun i p v _ hv => by simp at hv⟩
  case round =>
    obtain ⟨k, vs, hk, rfl, hvl, hm, hg, hT⟩ := hrel
    have HM := hid hm
    have HG := hid hg
    have HT := hid hT
    have hgs := hg.size
    have HRB := hid (show ∀ b, b < r → w.heap.size ≤ b → wr.heap[b]? = X.heap[b]? from fun b hb hn => (hg.block b (by omega) (fun e => by cases e; omega)).trans (HBL.out b hb hn))
    have yb : wr.heap[tb]? = some (.cells #[.slice a3 c.pods.length c3, .slice a4 c.pols.length c4, .map (some r)] 94 (0, 0)) := (hg.block tb (by omega) (fun e => by cases e; omega)).trans HY.out
    have HYB := hid yb
    have tc' : wr.cell? ⟨tb, 2, none⟩ = some (.map (some r)) := (blk_cell yb 2).trans rfl
    have kc0' : wr.cell? ⟨tb, 0, none⟩ = some (.slice a3 c.pods.length c3) := (blk_cell yb 0).trans rfl
    have kc1' : wr.cell? ⟨tb, 1, none⟩ = some (.slice a4 c.pols.length c4) := (blk_cell yb 1).trans rfl
    clear hm hT yb
    by_cases hlt : k < plist.length
    · obtain ⟨p, hpk⟩ : ∃ p, plist[k]? = some p := ⟨plist[k], by simp [hlt]⟩
      have HPK := hid hpk
      have hway : p.2 = 1 ∨ p.2 = 2 := by have := plist_way ⟨k, by have := H8.out; omega⟩; rw [hpk] at this; exact this
      have hsk : seek p.1 p.2 plist vs 0 = none := seek_none _ _ _ _ _ fun j q hj hq => by
        have := plist_ne ⟨k, by have := H8.out; omega⟩ ⟨j, by have := H8.out; omega⟩ (show j < k by omega)
        rw [hpk, hq] at this; exact this
      have HSK := hid hsk
      obtain ⟨b, off, rfl, hb, c0, c1⟩ := HL.out.2 k p hpk
      have d0 := cell_keep hg M0.out c0
      have d1 := cell_keep hg M0.out c1
      clear hpk hsk c0 c1 hg
      go_wp2
      have x0 : (wr.alloc (.cells #[.int .i64 p.1, .int .i64 p.2] 99)).drew.cell? ⟨wr.heap.size, 0, none⟩ = some (.int .i64 p.1) := by simp [go_sem]
      have x1 : (wr.alloc (.cells #[.int .i64 p.1, .int .i64 p.2] 99)).drew.cell? ⟨wr.heap.size, 1, none⟩ = some (.int .i64 p.2) := by simp [go_sem]
      have x2 : (wr.alloc (.cells #[.int .i64 p.1, .int .i64 p.2] 99)).drew.cell? ⟨tb, 2, none⟩ = some (.map (some r)) := cell_past tc'
      have x3 : (wr.alloc (.cells #[.int .i64 p.1, .int .i64 p.2] 99)).drew.cell? ⟨tb, 0, none⟩ = some (.slice a3 c.pods.length c3) := cell_past kc0'
      have x4 : (wr.alloc (.cells #[.int .i64 p.1, .int .i64 p.2] 99)).drew.cell? ⟨tb, 1, none⟩ = some (.slice a4 c.pols.length c4) := cell_past kc1'
      have hX : Below wr.heap.size wr (wr.alloc (.cells #[.int .i64 p.1, .int .i64 p.2] 99)).drew := ((Below.refl _ wr).alloc (Nat.le_refl _) _).drew
      have hXs : (wr.alloc (.cells #[.int .i64 p.1, .int .i64 p.2] 99)).drew.heap.size = wr.heap.size + 1 := World.size_alloc _ _
      have y0 : (wr.alloc (.cells #[.int .i64 p.1, .int .i64 p.2] 99)).cell? ⟨wr.heap.size, 0, none⟩ = some (.int .i64 p.1) := x0
      have y1 : (wr.alloc (.cells #[.int .i64 p.1, .int .i64 p.2] 99)).cell? ⟨wr.heap.size, 1, none⟩ = some (.int .i64 p.2) := x1
      have y2 : (wr.alloc (.cells #[.int .i64 p.1, .int .i64 p.2] 99)).cell? ⟨tb, 2, none⟩ = some (.map (some r)) := x2
      have y3 : (wr.alloc (.cells #[.int .i64 p.1, .int .i64 p.2] 99)).cell? ⟨tb, 0, none⟩ = some (.slice a3 c.pods.length c3) := x3
      have y4 : (wr.alloc (.cells #[.int .i64 p.1, .int .i64 p.2] 99)).cell? ⟨tb, 1, none⟩ = some (.slice a4 c.pols.length c4) := x4
      generalize wr.alloc (.cells #[.int .i64 p.1, .int .i64 p.2] 99) = WX at x0 x1 x2 x3 x4 hX hXs y0 y1 y2 y3 y4 ⊢
      have HX := hid hX
      have HPX := hid (HPS.out WX.drew (fun b hb hn => (hX.block b (by omega)).trans (HRB.out b hb hn)) (by omega))
      clear tc' kc0' kc1' d0 d1 hX
      go_region_held3 (fun w' => w'.cell? ⟨tb, 2, none⟩ = some (.map (some r)) ∧ w'.cell? ⟨wr.heap.size, 0, none⟩ = some (.int .i64 p.1) ∧ w'.cell? ⟨wr.heap.size, 1, none⟩ = some (.int .i64 p.2) ∧ w'.cell? ⟨tb, 0, none⟩ = some (.slice a3 c.pods.length c3) ∧ w'.cell? ⟨tb, 1, none⟩ = some (.slice a4 c.pols.length c4)) (go_keep) (first
        | (go_at_call 61; refine (make_any c p.1 p.2 hway a3 a4 c3 c4 WX.drew (rdPods.sub (Sub.show _ _) (Nat.le_refl _) HPX.out.1) (rdPols.sub (Sub.show _ _) (Nat.le_refl _) HPX.out.2) HC.out hpl hql).mono ?_; rintro e w4 ⟨⟨a5, cc4, n4, rfl, hT4⟩, hb4⟩; have hm4 : MapAt w4 r vs := (hb4.block r (by omega)).trans ((HX.out.block r (by omega)).trans HM.out); obtain ⟨W5, hmu, hg5, hm5⟩ := update_step w4 r vs hm4 p (.slice (some a5) n4 cc4) HSK.out (by rw [hvl]; exact HPK.out); have z0 := cell_to x0 hb4; have z1 := cell_to x1 hb4; have z2 := cell_to x2 hb4; have z3 := cell_to x3 hb4; have z4 := cell_to x4 hb4; have q0 := cell_keep hg5 hm4 z0; have q1 := cell_keep hg5 hm4 z1; have q2 := cell_keep hg5 hm4 z2; have q3 := cell_keep hg5 hm4 z3; have q4 := cell_keep hg5 hm4 z4; have HT4 := hid hT4; have HB4 := hid hb4; have HM4 := hid hm4; have HG5 := hid hg5; have HM5 := hid hm5; clear hT4 hb4 hm4 hg5 hm5))
      go_wp2
      go_roundw
      case measure => exact meas8 k hlt
      case rel =>
        have h1 := HB4.out.size
        have h2 := HG5.out.size
        refine ⟨k + 1, vs ++ [.slice (some a5) n4 cc4], hlt, next8 k hlt, by simp [hvl], HM5.out, ?_, ?_⟩
        · exact ⟨HG5.out.os.trans (HB4.out.os.trans (HX.out.os.trans HG.out.os)), HG5.out.tape.trans (HB4.out.tape.trans (HX.out.tape.trans HG.out.tape)), HG5.out.output.trans (HB4.out.output.trans (HX.out.output.trans HG.out.output)), by omega, fun b' hb' hne => (HG5.out.block b' (by omega) hne).trans ((HB4.out.block b' (by omega)).trans ((HX.out.block b' (by omega)).trans (HG.out.block b' hb' hne)))⟩
        · intro i q v hq hv
          rcases Nat.lt_or_ge i vs.length with h | h
          · rw [List.getElem?_append_left h] at hv
            exact (HT.out i q v hq hv).sub (sub_map (HX.out.trans (HB4.out.mono (by omega))) HM4.out HG5.out) (by omega)
          · rw [List.getElem?_append_right h] at hv
            have e : i = k := by
              rcases Nat.lt_or_ge (i - vs.length) 1 with h' | h'
              · omega
              · rw [List.getElem?_eq_none (by simpa using h')] at hv; cases hv
            subst e
            rw [hvl] at hv
            simp at hv
            rw [HPK.out] at hq
            cases hq
            subst hv
            exact HT4.out.sub ((Sub.low (m := WX.drew.heap.size) (by omega)).trans (sub_map (Below.refl _ _) HM4.out HG5.out)) h2
    · have hk8 : k = plist.length := by omega
      have HPX := hid (HPS.out wr HRB.out (by omega))
      go_wp2
      go_ret2
      exact ⟨rfl, ⟨_, _, _, HYB.out, r, vs, a3, a4, c3, c4, rfl, rfl, rfl, by omega, hc3, hc4, HPX.out.1, HPX.out.2, (hide_block _ _ _ (low_false.2 hXs)).trans HM.out, by have := H8.out; omega, HT.out⟩, gb_row HG2.out HG.out (fun g hg => by cases hg; omega)⟩
theorem compile_err (c : DClu) (pa qa : Option Addr) (pc qc : Nat) (w : World) (hp : rdPods w.heap.size w pa c.pods) (hq : rdPols w.heap.size w qa c.pols) (hpc : c.pods.length ≤ pc) (h : ¬ (right c).1 = 0) :
    Calls Tryz.prog 16 #[.agg #[.slice pa c.pods.length pc, .slice qa c.pols.length qc]] w fun e w' => e = .returned (.tuple #[.pointer none, .int .i64 (right c).1, .int .i64 (right c).2]) ∧ Below w.heap.size w w' := by
  have HP := hid hp
  have HQ := hid hq
  have HE := hid h
  have h2 : ((right c).1 != 0) = true := by simp [h]
  clear hp hq h
  go_enter Tryz.func16, Tryz.ntmps16
  go_wp2_with (go_at_call 34; refine (become_err c _ _ _ _ _ _ (rdPods.to HP.out bel) (rdPols.to HQ.out bel) hpc HE.out).mono ?_; rintro e w1 ⟨rfl, hb1⟩; obtain ⟨hc1, hf1⟩ := bcell hb1; have hz1 := hb_lt hb1)
  go_ret3
  exact ⟨rfl, bel⟩
theorem compile_ok (c : DClu) (pa qa : Option Addr) (pc qc : Nat) (w : World) (hp : rdPods w.heap.size w pa c.pods) (hq : rdPols w.heap.size w qa c.pols) (hpc : c.pods.length ≤ pc) (h : (right c).1 = 0) :
    Calls Tryz.prog 16 #[.agg #[.slice pa c.pods.length pc, .slice qa c.pols.length qc]] w fun e w' => (∃ tb, e = .returned (.tuple #[.pointer (some ⟨tb, 0, none⟩), .int .i64 0, .int .i64 0]) ∧ w.heap.size ≤ tb ∧ ∃ u0 u1 u2, w'.heap[tb]? = some (.cells #[u0, u1, u2] 94 (0, 0)) ∧ TabC w'.heap.size (hide w' (low (tb + 1))) u0 u1 u2 c) ∧ Below w.heap.size w w' := by
  have HP := hid hp
  have HQ := hid hq
  have HE := hid h
  clear hp hq h
  go_enter Tryz.func16, Tryz.ntmps16
  go_wp2_with (go_at_call 34; go_must (refine (become_ok c (w.heap.size + 1) (.slice none 0 0) (.slice none 0 0) (.map none) pa qa pc qc ((w.alloc (.cells #[.slice pa c.pods.length pc, .slice qa c.pols.length qc] 28)).alloc (.cells #[.slice none 0 0, .slice none 0 0, .map none] 94)) (by have := new_heap (w.alloc (.cells #[.slice pa c.pods.length pc, .slice qa c.pols.length qc] 28)) (.cells #[.slice none 0 0, .slice none 0 0, .map none] 94); simpa only [World.size_alloc] using this) (rdPods.to HP.out bel) (rdPols.to HQ.out bel) hpc HE.out).mono ?_); rintro e w1 ⟨rfl, ⟨u0, u1, u2, hu, hT⟩, hg⟩; have HU := hid hu; have HT := hid hT; have HG := hid hg; clear hu hT hg)
  go_ret3
  have hT := HT.out
  simp only [World.size_alloc] at hT
  refine ⟨⟨w.heap.size + 1, rfl, by omega, u0, u1, u2, HU.out, hT⟩, ?_⟩
  exact (show Below w.heap.size w ((w.alloc (.cells #[.slice pa c.pods.length pc, .slice qa c.pols.length qc] 28)).alloc (.cells #[.slice none 0 0, .slice none 0 0, .map none] 94)) from bel).trans (gb_low HG.out (by omega) (by simp only [World.size_alloc]; omega))
theorem seek_in : ∀ (ps : List (Int × Int)) (vs : List Value) (i : Nat) (h y : Int), vs.length = ps.length → (h, y) ∈ ps → ∃ n v, seek h y ps vs i = some (i + n, v) ∧ ps[n]? = some (h, y) ∧ vs[n]? = some v
  | [], _, _, _, _, _, hm => by simp at hm
  | p :: ps, [], _, _, _, hl, _ => by simp at hl
  | p :: ps, v :: vs, i, h, y, hl, hm => by
    rw [seek]
    by_cases e : h = p.1 ∧ y = p.2
    · exact ⟨0, v, by simp [e], by simp [e], by simp⟩
    · have hm : (h, y) ∈ ps := by
        rcases List.mem_cons.1 hm with h1 | h1
        · exact absurd ⟨congrArg Prod.fst h1, congrArg Prod.snd h1⟩ e
        · exact h1
      obtain ⟨n, u, h1, h2, h3⟩ := seek_in ps vs (i + 1) h y (by simpa using hl) hm
      refine ⟨n + 1, u, ?_, by simpa using h2, by simpa using h3⟩
      rw [if_neg (by simpa using e), h1]
      congr 2
      omega
theorem seek_out (ps : List (Int × Int)) (vs : List Value) (i : Nat) (h y : Int) (hn : (h, y) ∉ ps) : seek h y ps vs i = none :=
  seek_none ps vs i h y fun j p _ hp e => hn (by rw [e.1, e.2]; exact List.mem_of_getElem? hp)
theorem plist_mem (h y : Int) : (h, y) ∈ plist ↔ (0 ≤ h ∧ h ≤ 3) ∧ (y = 1 ∨ y = 2) := by
  simp only [plist, List.mem_cons, Prod.mk.injEq, List.not_mem_nil, or_false]
  omega
def TabsAs (B : Nat) (w : World) (tb : Nat) (c : DClu) (T : Int × Int → List DRow) : Prop :=
  ∃ (r : Nat) (vs : List Value), tb < B ∧ r < B ∧ w.cell? ⟨tb, 2, none⟩ = some (.map (some r)) ∧ MapAt w r vs ∧ vs.length = 8 ∧
    ∀ (i : Nat) (p : Int × Int) (v : Value), plist[i]? = some p → vs[i]? = some v → ∃ (a : Addr) (cc : Nat) (L : List DRow), v = .slice (some a) (T p).length cc ∧ T p = L ++ [lastRow] ∧ TabRows c p.2 p.1 c.pods L ∧ rdRows B w (some a) (T p)
theorem TabsAs.ext {B B' : Nat} {w w' : World} {tb : Nat} {c : DClu} {T : Int × Int → List DRow} (h : TabsAs B w tb c T) (hw : Below B w w') (hB : B ≤ B') : TabsAs B' w' tb c T := by
  obtain ⟨r, vs, h1, h2, h3, h4, h5, h6⟩ := h
  refine ⟨r, vs, by omega, by omega, (hw.cell (p := ⟨tb, 2, none⟩) h1).trans h3, (hw.block r h2).trans h4, h5, fun i p v hp hv => ?_⟩
  obtain ⟨a, cc, L, e1, e2, e3, e4⟩ := h6 i p v hp hv
  exact ⟨a, cc, L, e1, e2, e3, rdRows.ext hw hB e4⟩
theorem TabsAs.to {w w' : World} {tb : Nat} {c : DClu} {T : Int × Int → List DRow} (h : TabsAs w.heap.size w tb c T) (hw : Below w.heap.size w w') : TabsAs w'.heap.size w' tb c T := h.ext hw hw.size
theorem plist_inj : ∀ i j : Fin 8, plist[i.val]? = plist[j.val]? → i = j := by decide
theorem TabsAt.as {B : Nat} {w : World} {tb : Nat} {c : DClu} (h : TabsAt B w tb c) : ∃ T, TabsAs B w tb c T := by
  obtain ⟨r, vs, h1, h2, h3, h4, h5, h6⟩ := h
  have key : ∀ p : Int × Int, ∃ l : List DRow, ∀ (i : Nat) (v : Value), plist[i]? = some p → vs[i]? = some v → ∃ (a : Addr) (cc : Nat) (L : List DRow), v = .slice (some a) l.length cc ∧ l = L ++ [lastRow] ∧ TabRows c p.2 p.1 c.pods L ∧ rdRows B w (some a) l := by
    intro p
    by_cases hp : p ∈ plist
    · obtain ⟨i, hi⟩ := List.mem_iff_getElem?.1 hp
      have hil : i < vs.length := by have := (List.getElem?_eq_some_iff.1 hi).1; rw [h5]; exact this
      obtain ⟨a, cc, n, L, e1, e2, e3, e4⟩ := h6 i p vs[i] hi (List.getElem?_eq_getElem hil)
      refine ⟨L ++ [lastRow], fun j v hj hv => ?_⟩
      have hij : j = i := by
        have x1 := (List.getElem?_eq_some_iff.1 hi).1
        have y1 := (List.getElem?_eq_some_iff.1 hj).1
        exact congrArg Fin.val (plist_inj ⟨j, y1⟩ ⟨i, x1⟩ (hj.trans hi.symm))
      subst hij
      rw [List.getElem?_eq_getElem hil] at hv
      cases hv
      exact ⟨a, cc, L, by rw [e1, e2], rfl, e3, e4⟩
    · exact ⟨[], fun j v hj _ => absurd (List.mem_of_getElem? hj) hp⟩
  exact ⟨fun p => Classical.choose (key p), r, vs, h1, h2, h3, h4, h5, fun i p v hp hv => Classical.choose_spec (key p) i v hp hv⟩
theorem TabsAs.look {w : World} {tb : Nat} {c : DClu} {T : Int × Int → List DRow} (h : TabsAs w.heap.size w tb c T) (host way : Int) (hm : (host, way) ∈ plist) :
    ∃ (r : Nat) (vs : List Value) (a : Addr) (cc : Nat), w.cell? ⟨tb, 2, none⟩ = some (.map (some r)) ∧ MapAt w r vs ∧ (∃ n, seek host way plist vs 0 = some (n, .slice (some a) (T (host, way)).length cc)) ∧ rdRows w.heap.size w (some a) (T (host, way)) := by
  obtain ⟨r, vs, h1, h2, h3, h4, h5, h6⟩ := h
  obtain ⟨n, v, e1, e2, e3⟩ := seek_in plist vs 0 host way (by rw [h5]; rfl) hm
  obtain ⟨a, cc, L, rfl, hL, hT, hr⟩ := h6 n _ v e2 e3
  exact ⟨r, vs, a, cc, h3, h4, ⟨_, e1⟩, hr⟩
theorem TabsAs.tab {B : Nat} {w : World} {tb : Nat} {c : DClu} {T : Int × Int → List DRow} (h : TabsAs B w tb c T) (host way : Int) (hm : (host, way) ∈ plist) : ∃ L, T (host, way) = L ++ [lastRow] ∧ TabRows c way host c.pods L := by
  obtain ⟨r, vs, h1, h2, h3, h4, h5, h6⟩ := h
  obtain ⟨n, v, e1, e2, e3⟩ := seek_in plist vs 0 host way (by rw [h5]; rfl) hm
  obtain ⟨a, cc, L, rfl, hL, hT, hr⟩ := h6 n _ v e2 e3
  exact ⟨L, hL, hT⟩
theorem TabsAs.none {w : World} {tb : Nat} {c : DClu} {T : Int × Int → List DRow} (h : TabsAs w.heap.size w tb c T) (host way : Int) (hm : (host, way) ∉ plist) :
    ∃ (r : Nat) (vs : List Value), w.cell? ⟨tb, 2, none⟩ = some (.map (some r)) ∧ MapAt w r vs ∧ seek host way plist vs 0 = none := by
  obtain ⟨r, vs, h1, h2, h3, h4, h5, h6⟩ := h
  exact ⟨r, vs, h3, h4, seek_out _ _ _ _ _ hm⟩
theorem rows_none (c : DClu) (T : Int × Int → List DRow) (tb : Nat) (host way : Int) (w : World) (h : TabsAs w.heap.size w tb c T) (hm : (host, way) ∉ plist) :
    Calls Tryz.prog 17 #[.pointer (some ⟨tb, 0, none⟩), .int .i64 host, .int .i64 way] w fun e w' => e = .returned (.tuple #[.slice none 0 0, .int .i64 5]) ∧ Below w.heap.size w w' := by
  obtain ⟨r, vs, c0, hM, hs⟩ := h.none host way hm
  have hlk := look_place w r vs hM host way
  rw [hs] at hlk
  clear h hM hs hm
  go_enter Tryz.func17, Tryz.ntmps17
  go_wp2
  go_ret2
  exact ⟨rfl, bel⟩
theorem rows_any (c : DClu) (T : Int × Int → List DRow) (tb : Nat) (host way : Int) (w : World) (h : TabsAs w.heap.size w tb c T) (hm : (host, way) ∈ plist) :
    Calls Tryz.prog 17 #[.pointer (some ⟨tb, 0, none⟩), .int .i64 host, .int .i64 way] w fun e w' => (∃ v, e = .returned (.tuple #[v, .int .i64 0]) ∧ w'.ownsRow w.heap.size 49 8 v (T (host, way)).length ((T (host, way)).flatMap encRow)) ∧ Below w.heap.size w w' := by
  obtain ⟨r, vs, a, cc, c0, hM, ⟨n, hs⟩, hr⟩ := h.look host way hm
  have hlk := look_place w r vs hM host way
  rw [hs] at hlk
  have HR := hid hr
  clear h hM hs hm hr
  generalize T (host, way) = l at *
  go_enter Tryz.func17, Tryz.ntmps17
  go_wp2_with (go_at_call 35; refine (clone_any l _ _ _ (rdRows.to HR.out bel)).mono ?_; rintro e w1 ⟨⟨v, rfl, hown⟩, hb1⟩; have HO := hid hown; clear hown)
  go_ret2
  exact ⟨⟨v, rfl, HO.out⟩, bel⟩
theorem decide_none (c : DClu) (T : Int × Int → List DRow) (tb : Nat) (host way : Int) (k : DPkt) (w : World) (h : TabsAs w.heap.size w tb c T) (hm : (host, way) ∉ plist) :
    Calls Tryz.prog 18 #[.pointer (some ⟨tb, 0, none⟩), .int .i64 host, .int .i64 way, .agg #[.int .i64 k.src, .int .i64 k.dst, .int .i64 k.proto, .int .i64 k.port]] w fun e w' => e = .returned (.tuple #[.bool false, .int .i64 0, .int .i64 5]) ∧ Below w.heap.size w w' := by
  obtain ⟨r, vs, c0, hM, hs⟩ := h.none host way hm
  have hl := cell_lt c0
  have hlk := fun w1 h1 => look_place w1 r vs h1 host way
  rw [hs] at hlk
  have hM1 : MapAt (w.alloc (.cells #[.int .i64 k.src, .int .i64 k.dst, .int .i64 k.proto, .int .i64 k.port] 30)) r vs := by
    have hr : r < w.heap.size := (Array.getElem?_eq_some_iff.1 hM).1
    exact (Below.heap_alloc _ _ _ hr).trans hM
  have hlk := hlk _ hM1
  clear h hM hs hm hM1
  go_enter Tryz.func18, Tryz.ntmps18
  go_wp2
  go_ret3
  exact ⟨rfl, bel⟩
theorem decide_bad (c : DClu) (T : Int × Int → List DRow) (tb : Nat) (host way : Int) (k : DPkt) (w : World) (h : TabsAs w.heap.size w tb c T) (hm : (host, way) ∈ plist) (hk : pktOk k = false) :
    Calls Tryz.prog 18 #[.pointer (some ⟨tb, 0, none⟩), .int .i64 host, .int .i64 way, .agg #[.int .i64 k.src, .int .i64 k.dst, .int .i64 k.proto, .int .i64 k.port]] w fun e w' => e = .returned (.tuple #[.bool false, .int .i64 0, .int .i64 4]) ∧ Below w.heap.size w w' := by
  obtain ⟨r, vs, a, cc, c0, hM, ⟨n, hs⟩, hr⟩ := h.look host way hm
  have hl := cell_lt c0
  have hlk := fun w1 h1 => look_place w1 r vs h1 host way
  rw [hs] at hlk
  have hM1 : MapAt (w.alloc (.cells #[.int .i64 k.src, .int .i64 k.dst, .int .i64 k.proto, .int .i64 k.port] 30)) r vs := by
    have hr : r < w.heap.size := (Array.getElem?_eq_some_iff.1 hM).1
    exact (Below.heap_alloc _ _ _ hr).trans hM
  have hlk := hlk _ hM1
  clear h hM hs hm hM1 hr
  generalize (T (host, way)).length = m at hlk
  go_enter Tryz.func18, Tryz.ntmps18
  go_wp2_with (go_at_call 36; refine (pktRight_any k _).mono ?_; rw [hk]; rintro e w1 ⟨rfl, hb1⟩; obtain ⟨hc1, hf1⟩ := bcell hb1; have hz1 := hb_lt hb1)
  go_ret3
  exact ⟨rfl, bel⟩
theorem decide_any (c : DClu) (T : Int × Int → List DRow) (tb : Nat) (host way : Int) (k : DPkt) (w : World) (h : TabsAs w.heap.size w tb c T) (hm : (host, way) ∈ plist) (hk : pktOk k = true) (hc : cluOk c) :
    Calls Tryz.prog 18 #[.pointer (some ⟨tb, 0, none⟩), .int .i64 host, .int .i64 way, .agg #[.int .i64 k.src, .int .i64 k.dst, .int .i64 k.proto, .int .i64 k.port]] w fun e w' => (∃ n r, e = .returned (.tuple #[.bool (decd c host way k), .int .i64 ((n : Nat) : Int), .int .i64 0]) ∧ (T (host, way)).findIdx? (rowFits k) = some n ∧ (T (host, way))[n]? = some r ∧ r.allow = decd c host way k) ∧ Below w.heap.size w w' := by
  obtain ⟨r, vs, a, cc, c0, hM, ⟨n0, hs⟩, hr⟩ := h.look host way hm
  obtain ⟨L, hL, hT⟩ := h.tab host way hm
  obtain ⟨n, rw', h1, h2, h3⟩ := tab_decides hc hT k hk
  have hok := tab_ok hc hT
  rw [← hL] at h1 h2 hok
  have hl := cell_lt c0
  have hlk := fun w1 h1 => look_place w1 r vs h1 host way
  rw [hs] at hlk
  have hM1 : MapAt (w.alloc (.cells #[.int .i64 k.src, .int .i64 k.dst, .int .i64 k.proto, .int .i64 k.port] 30)) r vs := by
    have hr : r < w.heap.size := (Array.getElem?_eq_some_iff.1 hM).1
    exact (Below.heap_alloc _ _ _ hr).trans hM
  have hlk := hlk _ hM1
  have HR := hid hr
  have H1 := hid h1
  have H2 := hid h2
  have H3 := hid h3
  have HOK := hid hok
  have HK := hid hk
  clear h hM hs hm hM1 hr h1 h2 h3 hok hL hT hk
  generalize T (host, way) = l at *
  go_enter Tryz.func18, Tryz.ntmps18
  go_wp2_with (first
    | (go_at_call 36; refine (pktRight_any k _).mono ?_; rw [HK.out]; rintro e w1 ⟨rfl, hb1⟩; obtain ⟨hc1, hf1⟩ := bcell hb1; have hz1 := hb_lt hb1)
    | (go_at_call 37; refine (decides_any l k n rw' _ _ _ (rdRows.to HR.out bel) HOK.out HK.out H1.out H2.out).mono ?_; rw [H3.out]; rintro e w2 ⟨rfl, hb2⟩; obtain ⟨hc2, hf2⟩ := bcell hb2; have hz2 := hb_lt hb2))
  go_ret3
  exact ⟨⟨n, rw', rfl, H1.out, H2.out, H3.out⟩, bel⟩
end Go.Proofs.YtmkjlhplgcifiaaGreat
