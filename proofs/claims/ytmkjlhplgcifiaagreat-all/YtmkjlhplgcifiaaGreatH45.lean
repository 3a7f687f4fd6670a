/-
  palisadelaw: plain, over any Op: Right and Allowed.
-/
import Derived.Test.YtmkjlhplgcifiaaGreatH41
import Derived.Test.YtmkjlhplgcifiaaGreatH43
import Derived.Test.YtmkjlhplgcifiaaGreatH44
import Derived.Test.YtmkjlhplgcifiaaGreatH15
namespace Go.Proofs.YtmkjlhplgcifiaaGreat
open Go.ChangeShapes Go.WideShapes Go.ChangeAt Go.RowKit
set_option linter.unusedVariables false
set_option linter.unusedSimpArgs false
attribute [local simp] World.cell?_grow World.cell?_alloc_there
attribute [local go_sem] World.cell?_grow World.cell?_alloc_there eqg_blk std_blk eqg_pod std_pod eqg_sel std_sel eqg_prt std_prt eqg_row std_row
attribute [local go_sem ↓] eql_blk eql_sel neq_sel eql_prt eql_pod met_in1 met_in2 met_re1 met_re2 met_has1 met_has2 met_bl1 met_bl2 neq_row
set_option maxRecDepth 100000 in
set_option maxHeartbeats 4000000 in
theorem plain_one (on oa ob d0 d1 d2 d3 q0 q1 q2 q3 : Int) (s18 s19 : DSl) (k : DPkt) (c : DClu) (pa qa : Option Addr) (pc qc : Nat) (w : World) (hp : rdPods w.heap.size w pa c.pods) (hq : rdPols w.heap.size w qa c.pols) :
    Calls Tryz.prog 48 #[.agg #[.int .i64 1, .int .i64 on, .int .i64 oa, .int .i64 ob, .slice pa c.pods.length pc, .slice qa c.pols.length qc, .int .i64 k.src, .int .i64 k.dst, .int .i64 k.proto, .int .i64 k.port, .int .i64 d0, .int .i64 d1, .int .i64 d2, .int .i64 d3, .int .i64 q0, .int .i64 q1, .int .i64 q2, .int .i64 q3, .slice s18.a s18.n s18.c, .slice s19.a s19.n s19.c]] w fun e w' => e = .returned (.bool true) ∧ Below w.heap.size w w' := by
  have HP := hid hp
  have HQ := hid hq
  clear hp hq
  go_enter Tryz.func48, Tryz.ntmps48
  go_wp2_with fail
  generalize hW : w.alloc (Obj.cells #[.int .i64 1, .int .i64 on, .int .i64 oa, .int .i64 ob, .slice pa c.pods.length pc, .slice qa c.pols.length qc, .int .i64 k.src, .int .i64 k.dst, .int .i64 k.proto, .int .i64 k.port, .int .i64 d0, .int .i64 d1, .int .i64 d2, .int .i64 d3, .int .i64 q0, .int .i64 q1, .int .i64 q2, .int .i64 q3, .slice s18.a s18.n s18.c, .slice s19.a s19.n s19.c] 88) = W
  have hsW : W.heap.size = w.heap.size + 1 := by rw [← hW]; simp
  have HBW := hid (show Below w.heap.size w W from by rw [← hW]; exact bel)
  have a4 : W.cell? ⟨w.heap.size, 4, none⟩ = some (.slice pa c.pods.length pc) := by rw [← hW]; simp [go_sem]
  have a5 : W.cell? ⟨w.heap.size, 5, none⟩ = some (.slice qa c.pols.length qc) := by rw [← hW]; simp [go_sem]
  have a0 : W.cell? ⟨w.heap.size, 0, none⟩ = some (.int .i64 1) := by rw [← hW]; simp [go_sem]
  clear hW
  refine (lent_any c pa qa pc qc W (rdPods.to HP.out HBW.out) (rdPols.to HQ.out HBW.out)).mono ?_
  rintro e w1 ⟨m, sa, sn, sc, ta, tn, tc, rfl, hm1, hm2, hl1, hl2, hb1⟩
  obtain ⟨ss, cc, e1, hcc, hr1⟩ := hl1.rd HP.out.1 (B := w1.heap.size) hm2
  obtain ⟨tt, dd, e2, hr2⟩ := hl2.rd HQ.out (B := w1.heap.size) (Nat.le_refl _)
  cases e1
  cases e2
  have HL1 := hid hl1
  have HL2 := hid hl2
  have HR1 := hid hr1
  have HR2 := hid hr2
  have HB1 := hid hb1
  have hs1 := hb1.size
  have b4 : ∀ o, (w1.alloc o).cell? ⟨w.heap.size, 4, none⟩ = some (.slice pa c.pods.length pc) := fun o => cell_past (cell_to a4 hb1)
  have b5 : ∀ o, (w1.alloc o).cell? ⟨w.heap.size, 5, none⟩ = some (.slice qa c.pols.length qc) := fun o => cell_past (cell_to a5 hb1)
  have b0 : ∀ o, (w1.alloc o).cell? ⟨w.heap.size, 0, none⟩ = some (.int .i64 1) := fun o => cell_past (cell_to a0 hb1)
  clear hl1 hl2 hr1 hr2 hb1 a4 a5 a0
  go_wp2_with fail
  generalize hX : w1.alloc (Obj.cells #[.slice sa c.pods.length sc, .slice ta c.pols.length tc] 28) = X
  have hsX : X.heap.size = w1.heap.size + 1 := by rw [← hX]; simp
  have HBX := hid (show Below w1.heap.size w1 X from by rw [← hX]; exact bel)
  have h0 : X.cell? ⟨w1.heap.size, 0, none⟩ = some (.slice sa c.pods.length sc) := by rw [← hX]; simp [go_sem]
  have h1 : X.cell? ⟨w1.heap.size, 1, none⟩ = some (.slice ta c.pols.length tc) := by rw [← hX]; simp [go_sem]
  have q4 : X.cell? ⟨w.heap.size, 4, none⟩ = some (.slice pa c.pods.length pc) := by rw [← hX]; exact b4 _
  have q5 : X.cell? ⟨w.heap.size, 5, none⟩ = some (.slice qa c.pols.length qc) := by rw [← hX]; exact b5 _
  have q0 : X.cell? ⟨w.heap.size, 0, none⟩ = some (.int .i64 1) := by rw [← hX]; exact b0 _
  clear hX b4 b5 b0
  refine (right_any c sa ta sc tc X (rdPods.ext HBX.out (by omega) HR1.out) (rdPols.ext HBX.out (by omega) HR2.out) hcc).mono ?_
  rintro e w2 ⟨rfl, hb2⟩
  have HB2 := hid hb2
  have hs2 := hb2.size
  have i0 := cell_to h0 hb2
  have i1 := cell_to h1 hb2
  have r4 := cell_to q4 hb2
  have r5 := cell_to q5 hb2
  have r0 := cell_to q0 hb2
  have HB12 := hid (Ext.trans HBX.out hb2)
  clear hb2 h0 h1 q4 q5 q0
  go_wp2_with fail
  have hBB : Below w.heap.size w w2 := Ext.trans (Ext.trans HBW.out HB1.out) HB12.out
  refine (back_any c pa qa pc qc sa ta c.pods.length sc c.pols.length tc w.heap.size W.heap.size m w1.heap.size w2 (rdPods.ext hBB (Nat.le_refl _) HP.out) (rdPols.ext hBB (Nat.le_refl _) HQ.out) (by omega) hm1 hm2 HB12.out.size (HL1.out.heap fun j x1 x2 => HB12.out.block j (by omega)) (lnPols.fwd (B := w.heap.size) (rdPols.ext HBW.out (Nat.le_refl _) HQ.out) ((Ext.trans HB1.out HB12.out).mono (by omega)) (HL2.out.heap fun j x1 x2 => HB12.out.block j (by omega)))).mono ?_
  rintro e w3 ⟨rfl, hon⟩
  have hB3 : Below w.heap.size w w3 := hBB.trans (hon.below (by omega) (by omega))
  have hs3 := hon.2.1
  have u4 := hon.cell r4 (by omega)
  have u5 := hon.cell r5 (by omega)
  have u0 := hon.cell r0 (by omega)
  clear i0 i1 hon r4 r5 r0
  go_wp2_with fail
  refine (refRight_any c pa qa pc qc w3 (rdPods.to HP.out hB3) (rdPols.to HQ.out hB3)).mono ?_
  rintro e w4 ⟨rfl, hb4⟩
  have HB4 := hid (Ext.trans hB3 hb4)
  clear hb4 u4 u5 u0
  go_wp2_with (go_at_call 76; refine (num_any _ _).mono ?_; rintro e w' ⟨rfl, rfl⟩)
  go_ret
  exact ⟨by simp, HB4.out⟩
set_option maxRecDepth 100000 in
set_option maxHeartbeats 4000000 in
theorem plain_two (on oa ob d0 d1 d2 d3 q0 q1 q2 q3 : Int) (s18 s19 : DSl) (c : DClu) (k : DPkt) (pa qa : Option Addr) (pc qc : Nat) (w : World) (hp : rdPods w.heap.size w pa c.pods) (hq : rdPols w.heap.size w qa c.pols) :
    Calls Tryz.prog 48 #[.agg #[.int .i64 2, .int .i64 on, .int .i64 oa, .int .i64 ob, .slice pa c.pods.length pc, .slice qa c.pols.length qc, .int .i64 k.src, .int .i64 k.dst, .int .i64 k.proto, .int .i64 k.port, .int .i64 d0, .int .i64 d1, .int .i64 d2, .int .i64 d3, .int .i64 q0, .int .i64 q1, .int .i64 q2, .int .i64 q3, .slice s18.a s18.n s18.c, .slice s19.a s19.n s19.c]] w fun e w' => e = .returned (.bool true) ∧ Below w.heap.size w w' := by
  have HP := hid hp
  have HQ := hid hq
  clear hp hq
  go_enter Tryz.func48, Tryz.ntmps48
  go_wp2_with fail
  generalize hW : w.alloc (Obj.cells #[.int .i64 2, .int .i64 on, .int .i64 oa, .int .i64 ob, .slice pa c.pods.length pc, .slice qa c.pols.length qc, .int .i64 k.src, .int .i64 k.dst, .int .i64 k.proto, .int .i64 k.port, .int .i64 d0, .int .i64 d1, .int .i64 d2, .int .i64 d3, .int .i64 q0, .int .i64 q1, .int .i64 q2, .int .i64 q3, .slice s18.a s18.n s18.c, .slice s19.a s19.n s19.c] 88) = W
  have hsW : W.heap.size = w.heap.size + 1 := by rw [← hW]; simp
  have HBW := hid (show Below w.heap.size w W from by rw [← hW]; exact bel)
  have a4 : W.cell? ⟨w.heap.size, 4, none⟩ = some (.slice pa c.pods.length pc) := by rw [← hW]; simp [go_sem]
  have a5 : W.cell? ⟨w.heap.size, 5, none⟩ = some (.slice qa c.pols.length qc) := by rw [← hW]; simp [go_sem]
  have a6 : W.cell? ⟨w.heap.size, 6, none⟩ = some (.int .i64 k.src) := by rw [← hW]; simp [go_sem]
  have a7 : W.cell? ⟨w.heap.size, 7, none⟩ = some (.int .i64 k.dst) := by rw [← hW]; simp [go_sem]
  have a8 : W.cell? ⟨w.heap.size, 8, none⟩ = some (.int .i64 k.proto) := by rw [← hW]; simp [go_sem]
  have a9 : W.cell? ⟨w.heap.size, 9, none⟩ = some (.int .i64 k.port) := by rw [← hW]; simp [go_sem]
  have a0 : W.cell? ⟨w.heap.size, 0, none⟩ = some (.int .i64 2) := by rw [← hW]; simp [go_sem]
  clear hW
  refine (lent_any c pa qa pc qc W (rdPods.to HP.out HBW.out) (rdPols.to HQ.out HBW.out)).mono ?_
  rintro e w1 ⟨m, sa, sn, sc, ta, tn, tc, rfl, hm1, hm2, hl1, hl2, hb1⟩
  obtain ⟨ss, cc, e1, hcc, hr1⟩ := hl1.rd HP.out.1 (B := w1.heap.size) hm2
  obtain ⟨tt, dd, e2, hr2⟩ := hl2.rd HQ.out (B := w1.heap.size) (Nat.le_refl _)
  cases e1
  cases e2
  have HL1 := hid hl1
  have HL2 := hid hl2
  have HR1 := hid hr1
  have HR2 := hid hr2
  have HB1 := hid hb1
  have hs1 := hb1.size
  have b4 : ∀ o, (w1.alloc o).cell? ⟨w.heap.size, 4, none⟩ = some (.slice pa c.pods.length pc) := fun o => cell_past (cell_to a4 hb1)
  have b5 : ∀ o, (w1.alloc o).cell? ⟨w.heap.size, 5, none⟩ = some (.slice qa c.pols.length qc) := fun o => cell_past (cell_to a5 hb1)
  have b6 : ∀ o, (w1.alloc o).cell? ⟨w.heap.size, 6, none⟩ = some (.int .i64 k.src) := fun o => cell_past (cell_to a6 hb1)
  have b7 : ∀ o, (w1.alloc o).cell? ⟨w.heap.size, 7, none⟩ = some (.int .i64 k.dst) := fun o => cell_past (cell_to a7 hb1)
  have b8 : ∀ o, (w1.alloc o).cell? ⟨w.heap.size, 8, none⟩ = some (.int .i64 k.proto) := fun o => cell_past (cell_to a8 hb1)
  have b9 : ∀ o, (w1.alloc o).cell? ⟨w.heap.size, 9, none⟩ = some (.int .i64 k.port) := fun o => cell_past (cell_to a9 hb1)
  have b0 : ∀ o, (w1.alloc o).cell? ⟨w.heap.size, 0, none⟩ = some (.int .i64 2) := fun o => cell_past (cell_to a0 hb1)
  clear hl1 hl2 hr1 hr2 hb1 a4 a5 a6 a7 a8 a9 a0
  go_wp2_with fail
  generalize hX : w1.alloc (Obj.cells #[.slice sa c.pods.length sc, .slice ta c.pols.length tc] 28) = X
  have hsX : X.heap.size = w1.heap.size + 1 := by rw [← hX]; simp
  have HBX := hid (show Below w1.heap.size w1 X from by rw [← hX]; exact bel)
  have h0 : X.cell? ⟨w1.heap.size, 0, none⟩ = some (.slice sa c.pods.length sc) := by rw [← hX]; simp [go_sem]
  have h1 : X.cell? ⟨w1.heap.size, 1, none⟩ = some (.slice ta c.pols.length tc) := by rw [← hX]; simp [go_sem]
  have q4 : X.cell? ⟨w.heap.size, 4, none⟩ = some (.slice pa c.pods.length pc) := by rw [← hX]; exact b4 _
  have q5 : X.cell? ⟨w.heap.size, 5, none⟩ = some (.slice qa c.pols.length qc) := by rw [← hX]; exact b5 _
  have q6 : X.cell? ⟨w.heap.size, 6, none⟩ = some (.int .i64 k.src) := by rw [← hX]; exact b6 _
  have q7 : X.cell? ⟨w.heap.size, 7, none⟩ = some (.int .i64 k.dst) := by rw [← hX]; exact b7 _
  have q8 : X.cell? ⟨w.heap.size, 8, none⟩ = some (.int .i64 k.proto) := by rw [← hX]; exact b8 _
  have q9 : X.cell? ⟨w.heap.size, 9, none⟩ = some (.int .i64 k.port) := by rw [← hX]; exact b9 _
  have q0 : X.cell? ⟨w.heap.size, 0, none⟩ = some (.int .i64 2) := by rw [← hX]; exact b0 _
  clear hX b4 b5 b6 b7 b8 b9 b0
  refine (allowed_any c k sa ta sc tc X (rdPods.ext HBX.out (by omega) HR1.out) (rdPols.ext HBX.out (by omega) HR2.out) hcc).mono ?_
  rintro e w2 ⟨rfl, hb2⟩
  have HB2 := hid hb2
  have hs2 := hb2.size
  have i0 := cell_to h0 hb2
  have i1 := cell_to h1 hb2
  have r4 := cell_to q4 hb2
  have r5 := cell_to q5 hb2
  have r6 := cell_to q6 hb2
  have r7 := cell_to q7 hb2
  have r8 := cell_to q8 hb2
  have r9 := cell_to q9 hb2
  have r0 := cell_to q0 hb2
  have HB12 := hid (Ext.trans HBX.out hb2)
  clear hb2 h0 h1 q4 q5 q6 q7 q8 q9 q0
  go_wp2_with fail
  have hBB : Below w.heap.size w w2 := Ext.trans (Ext.trans HBW.out HB1.out) HB12.out
  refine (back_any c pa qa pc qc sa ta c.pods.length sc c.pols.length tc w.heap.size W.heap.size m w1.heap.size w2 (rdPods.ext hBB (Nat.le_refl _) HP.out) (rdPols.ext hBB (Nat.le_refl _) HQ.out) (by omega) hm1 hm2 HB12.out.size (HL1.out.heap fun j x1 x2 => HB12.out.block j (by omega)) (lnPols.fwd (B := w.heap.size) (rdPols.ext HBW.out (Nat.le_refl _) HQ.out) ((Ext.trans HB1.out HB12.out).mono (by omega)) (HL2.out.heap fun j x1 x2 => HB12.out.block j (by omega)))).mono ?_
  rintro e w3 ⟨rfl, hon⟩
  have hB3 : Below w.heap.size w w3 := hBB.trans (hon.below (by omega) (by omega))
  have hs3 := hon.2.1
  have u4 := hon.cell r4 (by omega)
  have u5 := hon.cell r5 (by omega)
  have u6 := hon.cell r6 (by omega)
  have u7 := hon.cell r7 (by omega)
  have u8 := hon.cell r8 (by omega)
  have u9 := hon.cell r9 (by omega)
  have u0 := hon.cell r0 (by omega)
  clear i0 i1 hon r4 r5 r6 r7 r8 r9 r0
  go_wp2_with fail
  refine (refAllowed_any c k pa qa pc qc w3 (rdPods.to HP.out hB3) (rdPols.to HQ.out hB3)).mono ?_
  rintro e w4 ⟨rfl, hb4⟩
  have HB4 := hid (Ext.trans hB3 hb4)
  clear hb4 u4 u5 u6 u7 u8 u9 u0
  go_wp2_with (go_at_call 76; refine (num_any _ _).mono ?_; rintro e w' ⟨rfl, rfl⟩)
  go_ret
  exact ⟨by simp, HB4.out⟩
theorem markRow_four {L i : Nat} (h : L % 4 = 0) (hi : i < 4) : markRow (L + i) = markRow L := by
  have e : ((L + i : Nat) : Int) / 4 = (L : Int) / 4 := by omega
  unfold markRow
  rw [e]
theorem St.rowed {wb B : Nat} {vl vd : Value} {Ps : List DPair} {Ds : List DSl} {w w' : World} (h : St wb B vl vd Ps Ds w) (hk : RowedOk wb B vl vd Ds w w') : ∃ vd' Ds', Ds'.length = Ds.length + 4 ∧ St wb B vl vd' Ps Ds' w' ∧ Mv wb vl vd Ps vl vd' Ps w w' := by
  obtain ⟨⟨h0, hm⟩, h2, h3, h4, h5, h6, h7⟩ := h
  obtain ⟨w1, v, n, hb1, hn, hv, vd', d0, d1, d2, d3, n0, n1, n2, n3, c4, c5, c6, c7, cs, ct, co, c8, c9⟩ := hk
  have hwl := (Array.getElem?_eq_some_iff.1 h2).1
  have hs1 := hb1.size
  have fr : ∀ b, b < w.heap.size → b ≠ wb → vd.ownBlock ≠ some b → w'.heap[b]? = w.heap[b]? := fun b hb e1 e2 => (c9 b (by omega) e1 e2 (fun e => by have := hv b e; omega)).trans (hb1.block b hb)
  have hkeep : ∀ {g : Nat} {cur : Array Value} {t : TypeId}, w.heap[g]? = some (.cells cur t (0, 0)) → t ≠ 85 → t ≠ 40 → w'.heap[g]? = w.heap[g]? := fun {g cur t} hg t1 t2 =>
    fr g (Array.getElem?_eq_some_iff.1 hg).1 (ty_ne hg h2 t1) (fun e => by obtain ⟨cu, hcu⟩ := own_ty h4 e; exact ty_ne hg hcu t2 rfl)
  refine ⟨vd', Ds ++ [d0, d1, d2, d3], by simp, ?_, ⟨cs.trans hb1.os, ct.trans hb1.tape, co.trans hb1.output⟩, by omega, fun g hg => .inl hg, fun g hg => ?_, fun p hp b e => .inl ⟨p, hp, e⟩, fun b hb hG => fr b hb (GSt_false.1 hG).1 (GSt_false.1 hG).2.2.1⟩
  rotate_left
  · rcases c6 with e' | ⟨g', e', hgt⟩
    · exact .inl (e' ▸ hg)
    · rw [e'] at hg; cases hg; exact .inr (by omega)
  refine ⟨⟨h0, by simp [hm]⟩, c4, own_stay h3 fun g hg => by obtain ⟨cu, hcu⟩ := own_ty h3 hg; exact hkeep hcu (by decide) (by decide), c5, fun p hp => ?_, fun k d hd => ?_, h7⟩
  · refine (h5 p hp).to (by omega) (fun b e => ?_) fun b hb hG => ?_
    · obtain ⟨cur, t, q1, q2⟩ := (h5 p hp).ty e
      rcases q2 with rfl | rfl | rfl | rfl <;> exact hkeep q1 (by decide) (by decide)
    obtain ⟨g1, g2, g3, g4⟩ := GSt_false.1 hG
    refine ⟨GSt_false.2 ⟨g1, g2, fun e => ?_, g4⟩, fr b hb g1 g3⟩
    rcases c6 with e' | ⟨g', e', hgt⟩
    · exact g3 (e' ▸ e)
    · rw [e'] at e; cases e; omega
  · rcases Nat.lt_or_ge k Ds.length with hlt | hge
    · rw [List.getElem?_append_left hlt] at hd
      exact ⟨(h6 k d hd).1, own_stay (h6 k d hd).2 fun g hg => by obtain ⟨cu, hcu⟩ := own_ty (h6 k d hd).2 hg; exact hkeep hcu (by decide) (by decide)⟩
    · rw [List.getElem?_append_right hge] at hd
      have hlt4 : k - Ds.length < 4 := (List.getElem?_eq_some_iff.1 hd).1
      have hmem := List.mem_of_getElem? hd
      have e : markRow k = markRow Ds.length := by
        have := markRow_four hm hlt4
        rwa [show Ds.length + (k - Ds.length) = k by omega] at this
      rw [e]
      refine ⟨?_, own_weak (c7 d hmem) (by omega)⟩
      simp only [List.mem_cons, List.not_mem_nil, or_false] at hmem
      rcases hmem with rfl | rfl | rfl | rfl <;> omega
theorem St.pair {wb B : Nat} {vl vd : Value} {Ps : List DPair} {Ds : List DSl} {w : World} (h : St wb B vl vd Ps Ds w) {p : DPair} (hp : p ∈ Ps) :
    cluOk p.c ∧ (∃ T, TabsAs w.heap.size w p.tb p.c T) ∧ ∃ pa qa pc qc, w.cell? ⟨p.rb, 0, none⟩ = some (.slice pa p.c.pods.length pc) ∧ w.cell? ⟨p.rb, 1, none⟩ = some (.slice qa p.c.pols.length qc) ∧ rdPods w.heap.size w pa p.c.pods ∧ rdPols w.heap.size w qa p.c.pols := by
  obtain ⟨h0, u0, u1, u2, q1, q2, q3, h4, ys, h5, h6, h7⟩ := h.2.2.2.2.1 p hp
  obtain ⟨l1, l2⟩ := right_lens h0
  have hyl : ys.length = p.c.pols.length := by rw [← h5, List.length_map]
  obtain ⟨a, n, e1, _, e3⟩ := upPods_done (base := B) (w := w) (v := p.v) (l := p.c.pods) ⟨h4, fun _ _ => trivial⟩ (by omega)
  obtain ⟨a', n', e2, _, e4⟩ := upPols_done (base := 0) (w := w) (v := p.v') (l := ys) ⟨own_lower h6 (Nat.zero_le _), fun y hy => NPol.mono _ _ _ _ y (Sub.hide fun b _ hG => ⟨lowOr_false.2 ⟨Nat.zero_le _, (has_false.1 ((GSt_false.1 hG).2.2.2 p hp)).2.2.2⟩, rfl⟩) (Nat.le_refl _) (h7 y hy)⟩ (by omega)
  rw [h5] at e2 e4
  rw [e1, e2] at q2
  refine ⟨right_zero h0, (q3.at q1).as, a, a', n, n', (blk_cell q2 0).trans rfl, (blk_cell q2 1).trans rfl, rdPods.sub (Sub.show _ _) (Nat.le_refl _) e3, rdPols.sub (Sub.show _ _) (Nat.le_refl _) e4⟩
theorem St.looks {wb B : Nat} {vl vd : Value} {Ps : List DPair} {Ds : List DSl} {w : World} (h : St wb B vl vd Ps Ds w) (hy : Ds.length * 24 ≤ 140737488351232) :
    Calls Tryz.prog 31 #[.pointer (some ⟨wb, 1, none⟩)] w fun e w' => e = .returned (.bool true) ∧ Below w.heap.size w w' := by
  obtain ⟨_, h2, _, h4, _, h6, _⟩ := h
  obtain ⟨da, dc, rfl, _, hrd⟩ := own_sls h4 hy
  refine looks_any wb da dc Ds w ((blk_cell h2 1).trans rfl) hrd fun k d hd => ?_
  obtain ⟨hn, ho⟩ := h6 k d hd
  have hr := own_rows (l := List.replicate d.n (markRow k)) (by rw [List.length_replicate]; exact ho) (by rw [List.length_replicate]; omega)
  obtain ⟨a, c, e, _, hr⟩ := hr
  injection e with e1 e2 e3
  rw [e1]
  exact hr
structure DOp where
  kd : Int
  on : Int
  oa : Int
  ob : Int
  s4 : DSl
  s5 : DSl
  k : DPkt
  d0 : Int
  d1 : Int
  d2 : Int
  d3 : Int
  q0 : Int
  q1 : Int
  q2 : Int
  q3 : Int
  s18 : DSl
  s19 : DSl
  c : DClu
  outs : List DRule
  ins : List DRule
def encOp (x : DOp) : List Value := [.int .i64 x.kd, .int .i64 x.on, .int .i64 x.oa, .int .i64 x.ob, .slice x.s4.a x.s4.n x.s4.c, .slice x.s5.a x.s5.n x.s5.c, .int .i64 x.k.src, .int .i64 x.k.dst, .int .i64 x.k.proto, .int .i64 x.k.port, .int .i64 x.d0, .int .i64 x.d1, .int .i64 x.d2, .int .i64 x.d3, .int .i64 x.q0, .int .i64 x.q1, .int .i64 x.q2, .int .i64 x.q3, .slice x.s18.a x.s18.n x.s18.c, .slice x.s19.a x.s19.n x.s19.c]
def eOp (_B : Nat) (w : World) (b o : Nat) (x : DOp) : Prop := ∀ j u, (encOp x)[j]? = some u → w.cell? ⟨b, o + j, none⟩ = some u
def DOp.pol (x : DOp) : DPol := ⟨x.q0, x.q1, x.q2, x.q3, x.outs, x.ins⟩
def DOp.pod (x : DOp) : DPod := ⟨x.d0, x.d1, x.d2, x.d3⟩
def okOp (B : Nat) (w : World) (x : DOp) : Prop := (x.s4.n = x.c.pods.length ∧ x.s5.n = x.c.pols.length ∧ x.s18.n = x.outs.length ∧ x.s19.n = x.ins.length) ∧ rdPods B w x.s4.a x.c.pods ∧ rdPols B w x.s5.a x.c.pols ∧ rdRules B w x.s18.a x.outs ∧ rdRules B w x.s19.a x.ins
def iOp (x : DOp) : Prop := (i64 x.kd ∧ i64 x.on ∧ i64 x.oa ∧ i64 x.ob) ∧ iClu x.c ∧ iPkt x.k ∧ iPod x.pod ∧ iPol x.pol
theorem okOp.sub {B B' : Nat} {w w' : World} (hs : Sub w w') (hB : B ≤ B') {x : DOp} (h : okOp B w x) : okOp B' w' x :=
  ⟨h.1, rdPods.sub hs hB h.2.1, rdPols.sub hs hB h.2.2.1, rdRules.sub hs hB h.2.2.2.1, rdRules.sub hs hB h.2.2.2.2⟩
theorem list_20 {α : Type} {l : List α} (h : l.length = 20) : ∃ v0 v1 v2 v3 v4 v5 v6 v7 v8 v9 v10 v11 v12 v13 v14 v15 v16 v17 v18 v19, l = [v0, v1, v2, v3, v4, v5, v6, v7, v8, v9, v10, v11, v12, v13, v14, v15, v16, v17, v18, v19] := by
  match l, h with
  | [v0, v1, v2, v3, v4, v5, v6, v7, v8, v9, v10, v11, v12, v13, v14, v15, v16, v17, v18, v19], _ => exact ⟨v0, v1, v2, v3, v4, v5, v6, v7, v8, v9, v10, v11, v12, v13, v14, v15, v16, v17, v18, v19, rfl⟩
theorem eOp_mk {B : Nat} {w : World} {b o : Nat} {x : DOp} (h : ∀ j, j < 20 → w.cell? ⟨b, o + j, none⟩ = (encOp x)[j]?) : eOp B w b o x := fun j u hj => by
  have hl : j < 20 := (List.getElem?_eq_some_iff.1 hj).1
  rw [h j hl]; exact hj
theorem cells_op : Tryz.prog.cellsOf 88 = 20 := by kernel_rfl
theorem bytes_op : Tryz.prog.bytesOf 88 = 224 := by kernel_rfl
section
variable {H : Type} {enc : TypeId × Value → H} {w : World} {base : Nat} {spare : Nat → Bool} {held : Bool}
theorem open_op : OpenE enc w base spare held 88 20 (fun B w b o x => eOp B w b o x ∧ (okOp B w x ∧ iOp x)) := by
  intro b o fuel cs y hc h hw
  obtain ⟨hl, n, hf⟩ := open_st Tryz.underlying88 h hw
  rw [cells_op] at hl
  obtain ⟨v0, v1, v2, v3, v4, v5, v6, v7, v8, v9, v10, v11, v12, v13, v14, v15, v16, v17, v18, v19, rfl⟩ := list_20 hl
  obtain ⟨z0, h0, g0⟩ := hf 0 _ rfl
  have k0 : DataW.trod enc Tryz.prog w base spare held n 3 [v0] = some z0 := by have q : DataW.trod enc Tryz.prog w base spare held n 3 (([v0, v1, v2, v3, v4, v5, v6, v7, v8, v9, v10, v11, v12, v13, v14, v15, v16, v17, v18, v19].drop 0).take (Tryz.prog.cellsOf 3)) = some z0 := h0; rw [cells_int] at q; exact q
  obtain ⟨z1, h1, g1⟩ := hf 1 _ rfl
  have k1 : DataW.trod enc Tryz.prog w base spare held n 3 [v1] = some z1 := by have q : DataW.trod enc Tryz.prog w base spare held n 3 (([v0, v1, v2, v3, v4, v5, v6, v7, v8, v9, v10, v11, v12, v13, v14, v15, v16, v17, v18, v19].drop 1).take (Tryz.prog.cellsOf 3)) = some z1 := h1; rw [cells_int] at q; exact q
  obtain ⟨z2, h2, g2⟩ := hf 2 _ rfl
  have k2 : DataW.trod enc Tryz.prog w base spare held n 3 [v2] = some z2 := by have q : DataW.trod enc Tryz.prog w base spare held n 3 (([v0, v1, v2, v3, v4, v5, v6, v7, v8, v9, v10, v11, v12, v13, v14, v15, v16, v17, v18, v19].drop 2).take (Tryz.prog.cellsOf 3)) = some z2 := h2; rw [cells_int] at q; exact q
  obtain ⟨z3, h3, g3⟩ := hf 3 _ rfl
  have k3 : DataW.trod enc Tryz.prog w base spare held n 3 [v3] = some z3 := by have q : DataW.trod enc Tryz.prog w base spare held n 3 (([v0, v1, v2, v3, v4, v5, v6, v7, v8, v9, v10, v11, v12, v13, v14, v15, v16, v17, v18, v19].drop 3).take (Tryz.prog.cellsOf 3)) = some z3 := h3; rw [cells_int] at q; exact q
  obtain ⟨z4, h4, g4⟩ := hf 4 _ rfl
  have k4 : DataW.trod enc Tryz.prog w base spare held n 28 [v4, v5] = some z4 := by have q : DataW.trod enc Tryz.prog w base spare held n 28 (([v0, v1, v2, v3, v4, v5, v6, v7, v8, v9, v10, v11, v12, v13, v14, v15, v16, v17, v18, v19].drop 4).take (Tryz.prog.cellsOf 28)) = some z4 := h4; rw [cells_clu] at q; exact q
  obtain ⟨z5, h5, g5⟩ := hf 5 _ rfl
  have k5 : DataW.trod enc Tryz.prog w base spare held n 30 [v6, v7, v8, v9] = some z5 := by have q : DataW.trod enc Tryz.prog w base spare held n 30 (([v0, v1, v2, v3, v4, v5, v6, v7, v8, v9, v10, v11, v12, v13, v14, v15, v16, v17, v18, v19].drop 6).take (Tryz.prog.cellsOf 30)) = some z5 := h5; rw [cells_pkt] at q; exact q
  obtain ⟨z6, h6, g6⟩ := hf 6 _ rfl
  have k6 : DataW.trod enc Tryz.prog w base spare held n 54 [v10, v11, v12, v13] = some z6 := by have q : DataW.trod enc Tryz.prog w base spare held n 54 (([v0, v1, v2, v3, v4, v5, v6, v7, v8, v9, v10, v11, v12, v13, v14, v15, v16, v17, v18, v19].drop 10).take (Tryz.prog.cellsOf 54)) = some z6 := h6; rw [cells_pod] at q; exact q
  obtain ⟨z7, h7, g7⟩ := hf 7 _ rfl
  have k7 : DataW.trod enc Tryz.prog w base spare held n 59 [v14, v15, v16, v17, v18, v19] = some z7 := by have q : DataW.trod enc Tryz.prog w base spare held n 59 (([v0, v1, v2, v3, v4, v5, v6, v7, v8, v9, v10, v11, v12, v13, v14, v15, v16, v17, v18, v19].drop 14).take (Tryz.prog.cellsOf 59)) = some z7 := h7; rw [cells_pol] at q; exact q
  obtain ⟨x0, e0, i0⟩ := open_it k0
  obtain ⟨x1, e1, i1⟩ := open_it k1
  obtain ⟨x2, e2, i2⟩ := open_it k2
  obtain ⟨x3, e3, i3⟩ := open_it k3
  obtain ⟨pa, pods, pc, qa, pols, qc, e4, e5, rp, rq, ic⟩ := open_clu k4 g4
  obtain ⟨k, e6, e7, e8, e9, ik⟩ := open_pkt k5 g5
  obtain ⟨pd, ⟨d0, d1, d2, d3⟩, ip⟩ := open_pod b (o + 10) n _ _ (fun j hj => by
    rw [Nat.add_assoc, hc (10 + j) (by omega)]
    match j, hj with
    | 0, _ => rfl
    | 1, _ => rfl
    | 2, _ => rfl
    | 3, _ => rfl) k6 g6
  obtain ⟨pl, ⟨q0, q1, q2, q3, ⟨oa, oc, q4, ro⟩, ia, ic', q5, ri⟩, iq⟩ := open_pol b (o + 14) n _ _ (fun j hj => by
    rw [Nat.add_assoc, hc (14 + j) (by omega)]
    match j, hj with
    | 0, _ => rfl
    | 1, _ => rfl
    | 2, _ => rfl
    | 3, _ => rfl
    | 4, _ => rfl
    | 5, _ => rfl) k7 g7
  subst e0 e1 e2 e3 e4 e5 e6 e7 e8 e9
  refine ⟨⟨x0, x1, x2, x3, ⟨pa, pods.length, pc⟩, ⟨qa, pols.length, qc⟩, k, pd.host, pd.ip, pd.space, pd.labels, pl.space, pl.need, pl.ban, pl.ways, ⟨oa, pl.outs.length, oc⟩, ⟨ia, pl.ins.length, ic'⟩, ⟨pods, pols⟩, pl.outs, pl.ins⟩, eOp_mk fun j hj => ?_, ⟨⟨rfl, rfl, rfl, rfl⟩, rp, rq, ro, ri⟩, ⟨i0, i1, i2, i3⟩, ic, ik, ip, iq⟩
  match j, hj with
  | 0, _ => exact hc 0 (by omega)
  | 1, _ => exact hc 1 (by omega)
  | 2, _ => exact hc 2 (by omega)
  | 3, _ => exact hc 3 (by omega)
  | 4, _ => exact hc 4 (by omega)
  | 5, _ => exact hc 5 (by omega)
  | 6, _ => exact hc 6 (by omega)
  | 7, _ => exact hc 7 (by omega)
  | 8, _ => exact hc 8 (by omega)
  | 9, _ => exact hc 9 (by omega)
  | 10, _ => exact d0
  | 11, _ => exact d1
  | 12, _ => exact d2
  | 13, _ => exact d3
  | 14, _ => exact q0
  | 15, _ => exact q1
  | 16, _ => exact q2
  | 17, _ => exact q3
  | 18, _ => exact q4
  | 19, _ => exact q5
  | j + 20, h => exact absurd h (by omega)
theorem open_ops {fuel : Nat} {cs : List Value} {x : DataW H × List MemPlace} (h : DataW.trod enc Tryz.prog w base spare held fuel 22 cs = some x) (hw : ∀ n ∈ x.1.weights Tryz.prog 22, n ≤ reachBytes) :
    ∃ a l c, cs = [.slice a l.length c] ∧ RdSl w.heap.size w 20 224 eOp a l ∧ ∀ x ∈ l, okOp w.heap.size w x ∧ iOp x := by
  obtain ⟨a, l, c, h1, h2⟩ := open_list Tryz.underlying22 cells_op bytes_op (by decide) open_op h hw
  refine ⟨a, l, c, h1, ⟨h2.1, fun i x hx => ?_⟩, fun x hx => ?_⟩
  · obtain ⟨b, off, h1, h2, h3, _⟩ := h2.2 i x hx
    exact ⟨b, off, h1, h2, h3⟩
  · obtain ⟨i, hi⟩ := List.mem_iff_getElem?.1 hx
    obtain ⟨b, off, _, _, _, h4⟩ := h2.2 i x hi
    exact h4
end
def StF (S0 : Nat) (w0 : World) (wb B : Nat) (vl vd : Value) (Ps : List DPair) (Ds : List DSl) (w : World) : Prop :=
  St wb B vl vd Ps Ds w ∧ S0 ≤ w.heap.size ∧ (∀ g, vl.ownBlock = some g → S0 ≤ g) ∧ (∀ g, vd.ownBlock = some g → S0 ≤ g) ∧ (∀ p ∈ Ps, ∀ b, p.has b = true → S0 ≤ b) ∧ (∀ b, b < S0 → b ≠ wb → w.heap[b]? = w0.heap[b]?) ∧ w.os = w0.os ∧ w.tape = w0.tape ∧ w.output = w0.output
theorem StF.mv {S0 : Nat} {w0 : World} {wb B : Nat} {vl vd vl' vd' : Value} {Ps Ps' : List DPair} {Ds Ds' : List DSl} {w w' : World} (h : StF S0 w0 wb B vl vd Ps Ds w) (hs : St wb B vl' vd' Ps' Ds' w') (hm : Mv wb vl vd Ps vl' vd' Ps' w w') : StF S0 w0 wb B vl' vd' Ps' Ds' w' := by
  obtain ⟨_, h1, h2, h3, h4, h5, h6, h7, h8⟩ := h
  obtain ⟨⟨n1, n2, n3⟩, m0, m1, m2, m3, m4⟩ := hm
  refine ⟨hs, by omega, fun g hg => ?_, fun g hg => ?_, fun p hp b e => ?_, fun b hb hne => ?_, n1.trans h6, n2.trans h7, n3.trans h8⟩
  · rcases m1 g hg with e | e
    · exact h2 g e
    · omega
  · rcases m2 g hg with e | e
    · exact h3 g e
    · omega
  · rcases m3 p hp b e with ⟨q, hq, e1⟩ | e1
    · exact h4 q hq b e1
    · omega
  · rw [m4 b (by omega) (GSt_false.2 ⟨hne, fun e => by have := h2 b e; omega, fun e => by have := h3 b e; omega, fun p hp => by
      cases e : p.has b with
      | false => rfl
      | true => have := h4 p hp b e; omega⟩)]
    exact h5 b hb hne
theorem StF.sub {S0 : Nat} {w0 : World} {wb B : Nat} {vl vd : Value} {Ps : List DPair} {Ds : List DSl} {w : World} (h : StF S0 w0 wb B vl vd Ps Ds w) (hS : w0.heap.size = S0) : Sub (hide w0 (fun b => decide (b = wb))) w :=
  Sub.unhide fun b hb hG => h.2.2.2.2.2.1 b (by omega) (by simpa using hG)
theorem Mv.pre {wb : Nat} {vl vd vl' vd' : Value} {Ps Ps' : List DPair} {w W w' : World} (hb : Below w.heap.size w W) (h : Mv wb vl vd Ps vl' vd' Ps' W w') : Mv wb vl vd Ps vl' vd' Ps' w w' := by
  obtain ⟨⟨n1, n2, n3⟩, m0, m1, m2, m3, m4⟩ := h
  have hs := hb.size
  exact ⟨⟨n1.trans hb.os, n2.trans hb.tape, n3.trans hb.output⟩, by omega, fun g hg => (m1 g hg).imp id fun e => by omega, fun g hg => (m2 g hg).imp id fun e => by omega, fun p hp b e => (m3 p hp b e).imp id fun e => by omega, fun b h1 h2 => (m4 b (by omega) h2).trans (hb.block b h1)⟩
def StepOk (x : DOp) (wb B : Nat) (vl vd : Value) (Ps : List DPair) (Ds : List DSl) (w w' : World) : Prop :=
  ∃ vl' vd' Ps' Ds', St wb B vl' vd' Ps' Ds' w' ∧ Mv wb vl vd Ps vl' vd' Ps' w w' ∧ Ps.length ≤ Ps'.length ∧ Ps'.length ≤ Ps.length + 1 ∧ Ds'.length ≤ Ds.length + 4 ∧ (x.kd = 3 → (right x.c).1 = 0 → Ps'.length = Ps.length + 1)
theorem StepOk.below {x : DOp} {wb B : Nat} {vl vd : Value} {Ps : List DPair} {Ds : List DSl} {w w' : World} (h : St wb B vl vd Ps Ds w) (hb : Below w.heap.size w w') (hx : ¬ (x.kd = 3 ∧ (right x.c).1 = 0)) : StepOk x wb B vl vd Ps Ds w w' :=
  ⟨vl, vd, Ps, Ds, h.grow hb, Mv.grow hb, Nat.le_refl _, by omega, by omega, fun a b => absurd ⟨a, b⟩ hx⟩
theorem StepOk.compiled {x : DOp} {wb B : Nat} {vl vd : Value} {Ps : List DPair} {Ds : List DSl} {w W w' : World} (h : St wb B vl vd Ps Ds w) (hb : Below w.heap.size w W) (hr : (right x.c).1 = 0) (hc : CompiledOwn wb B vl vd (Ps.map DPair.at) x.c W w') : StepOk x wb B vl vd Ps Ds w w' := by
  obtain ⟨vl', q, h1, h2⟩ := St.compiled (h.grow hb) hr hc
  exact ⟨vl', vd, _, Ds, h1, h2.pre hb, by simp, by simp, by omega, fun _ _ => by simp⟩
theorem StepOk.rowed {x : DOp} {wb B : Nat} {vl vd : Value} {Ps : List DPair} {Ds : List DSl} {w W w' : World} (h : St wb B vl vd Ps Ds w) (hb : Below w.heap.size w W) (hx : ¬ x.kd = 3) (hc : RowedOk wb B vl vd Ds W w') : StepOk x wb B vl vd Ps Ds w w' := by
  obtain ⟨vd', Ds', h1, h2, h3⟩ := St.rowed (h.grow hb) hc
  exact ⟨vl, vd', Ps, Ds', h2, h3.pre hb, by omega, by omega, by omega, fun e => absurd e hx⟩
theorem StF.below {S0 : Nat} {w0 : World} {wb B : Nat} {vl vd : Value} {Ps : List DPair} {Ds : List DSl} {w : World} (h : StF S0 w0 wb B vl vd Ps Ds w) (hS : wb < S0) (h0 : w0.heap.size = S0) : Below wb w0 w :=
  ⟨h.2.2.2.2.2.2.1, h.2.2.2.2.2.2.2.1, h.2.2.2.2.2.2.2.2, by have := h.2.1; omega, fun b hb => h.2.2.2.2.2.1 b (by omega) (by omega)⟩
end Go.Proofs.YtmkjlhplgcifiaaGreat
