/-
  A cluster given back.
-/
import Derived.Test.YtmkjlhplgcifiaaGreatH38
import Derived.Test.YtmkjlhplgcifiaaGreatH36
import Derived.Test.YtmkjlhplgcifiaaGreatH37
import Derived.Test.YtmkjlhplgcifiaaGreatH32
namespace Go.Proofs.YtmkjlhplgcifiaaGreat
open Go.ChangeShapes Go.WideShapes Go.ChangeAt Go.RowKit
set_option linter.unusedVariables false
set_option linter.unusedSimpArgs false
attribute [local simp] World.cell?_grow World.cell?_alloc_there
attribute [local go_sem] World.cell?_grow World.cell?_alloc_there eqg_blk std_blk eqg_pod std_pod eqg_sel std_sel eqg_prt std_prt
attribute [local go_sem ↓] eql_blk eql_sel neq_sel eql_prt eql_pod met_in1 met_in2 met_re1 met_re2
set_option maxRecDepth 100000 in
set_option maxHeartbeats 16000000 in
theorem back_pq (c : DClu) (pa : Addr) (gp : Nat) (qa : Addr) (gq : Nat) (f : Nat → Nat) (pc qc B lo m hi : Nat) (w : World) (hB : B ≤ lo) (hlm : lo ≤ m) (hmh : m ≤ hi) (hs : hi ≤ w.heap.size) (hp : rdPods B w (some pa) c.pods) (hgp1 : lo ≤ gp) (hgp2 : gp < m) (hgr : w.heap[gp]? = some (.cells (c.pods.flatMap oCells ++ ([.int .i64 (-7), .int .i64 0, .int .i64 0, .int .i64 0] : List Value)).toArray 54 (0, 0))) (hq : rdPols B w (some qa) c.pols) (hgq1 : m ≤ gq) (hgq2 : gq < hi) (hL : LnL 6 c.pols.length (eLnPol w (some qa) c.pols gq) w gq f c.pols.length) (hf : f c.pols.length ≤ hi) (hz : w.cell? ⟨gq, c.pols.length * 6, none⟩ = some (.int .i64 (-7))) :
    Calls Tryz.prog 74 #[.agg #[.slice (some ⟨gp, 0, none⟩) c.pods.length (c.pods.length + 1), .slice (some ⟨gq, 0, none⟩) c.pols.length (c.pols.length + 1)], .agg #[.slice (some pa) c.pods.length pc, .slice (some qa) c.pols.length qc]] w fun e w' => e = .returned (.bool true) ∧ Only lo hi w w' := by
  have hqp : ∀ w, (binOp .neq 25 (.slice (some pa) c.pods.length pc) (.slice none 0 0)).run Tryz.prog w = .ok (.bool true) w := fun w => run_neq_slice_nil_any w 25 54 _ _ _ _ _ und_pod
  have hqq : ∀ w, (binOp .neq 26 (.slice (some qa) c.pols.length qc) (.slice none 0 0)).run Tryz.prog w = .ok (.bool true) w := fun w => run_neq_slice_nil_any w 26 59 _ _ _ _ _ und_pol
  have hlp := hp.1
  have HP := hid hp
  have HGR := hid hgr
  have HOP := hid (own_of hgr (show _ = (c.pods.length + 1) * 4 by simp [flat_len oCells 4 lens_pod, Nat.succ_mul]))
  have hn1 : ((c.pods.length : Int) != (c.pods.length : Int)) = false := by simp
  clear hp hgr
  have s0 : w.cell? ⟨gp, c.pods.length * 4, none⟩ = some (.int .i64 (-7)) := row_cell HGR.out ((flat_end oCells 4 lens_pod c.pods _ 0).trans rfl)
  have s1 : w.cell? ⟨gp, c.pods.length * 4 + 1, none⟩ = some (.int .i64 0) := row_cell HGR.out ((flat_end oCells 4 lens_pod c.pods _ 1).trans rfl)
  have s2 : w.cell? ⟨gp, c.pods.length * 4 + 2, none⟩ = some (.int .i64 0) := row_cell HGR.out ((flat_end oCells 4 lens_pod c.pods _ 2).trans rfl)
  have s3 : w.cell? ⟨gp, c.pods.length * 4 + 3, none⟩ = some (.int .i64 0) := row_cell HGR.out ((flat_end oCells 4 lens_pod c.pods _ 3).trans rfl)
  have hlq := hq.1
  have HQ := hid hq
  have HL := hid hL
  have HZ := hid hz
  have HMO := hid (mono_le hL.2.2.1)
  have hg0 := hL.2.1
  have hn2 : ((c.pols.length : Int) != (c.pols.length : Int)) = false := by simp
  clear hq hL
  clear hz
  have gw1 : gp < w.heap.size := by omega
  have gw2 : gp < w.heap.size + 1 := by omega
  have gw3 : gp ≤ w.heap.size := by omega
  go_enter Tryz.func74, Tryz.ntmps74
  go_wp2
  generalize hW : (w.alloc (Obj.cells #[.slice (some ⟨gp, 0, none⟩) c.pods.length (c.pods.length + 1), .slice (some ⟨gq, 0, none⟩) c.pols.length (c.pols.length + 1)] 28)).alloc (Obj.cells #[.slice (some pa) c.pods.length pc, .slice (some qa) c.pols.length qc] 28) = W
  have hsW : W.heap.size = w.heap.size + 2 := by rw [← hW]; simp
  have x0 : W.cell? ⟨w.heap.size, 0, none⟩ = some (.slice (some ⟨gp, 0, none⟩) c.pods.length (c.pods.length + 1)) := by rw [← hW]; simp [go_sem]
  have x1 : W.cell? ⟨w.heap.size, 1, none⟩ = some (.slice (some ⟨gq, 0, none⟩) c.pols.length (c.pols.length + 1)) := by rw [← hW]; simp [go_sem]
  have y0 : W.cell? ⟨w.heap.size + 1, 0, none⟩ = some (.slice (some pa) c.pods.length pc) := by rw [← hW]; simp [go_sem]
  have y1 : W.cell? ⟨w.heap.size + 1, 1, none⟩ = some (.slice (some qa) c.pols.length qc) := by rw [← hW]; simp [go_sem]
  have HBW := hid (show Below w.heap.size w W from by rw [← hW]; exact bel)
  clear hW
  clear s0 s1 s2 s3
  go_loopw [5, 7] (fun ok i wr => ∃ k : Nat, k ≤ c.pods.length ∧ i = .int .i64 k ∧ ok = .bool true ∧ own wr gp ((c.pods.length + 1) * 4) ∧ (∀ o, k * 4 ≤ o → wr.cell? ⟨gp, o, none⟩ = w.cell? ⟨gp, o, none⟩) ∧ Only gp (gp + 1) W wr) (fun _ i _ => c.pods.length - (intOf i).toNat)
  case atStart => exact ⟨0, Nat.zero_le _, rfl, rfl, own_heap HOP.out (HBW.out.block gp (by omega)), fun o _ => HBW.out.cell (p := ⟨gp, o, none⟩) (by show gp < _; omega), Only.refl _ _ _⟩
  case round =>
    obtain ⟨k, hk, rfl, rfl, hown, hrow, hon⟩ := hrel
    have HOW := hid hown
    have HRW := hid hrow
    have HON := hid hon
    have z0 := hon.cell x0 (by omega)
    have z1 := hon.cell x1 (by omega)
    have t0 := hon.cell y0 (by omega)
    have t1 := hon.cell y1 (by omega)
    have hsr := hon.2.1
    have HBR := hid (show Below B w wr from (HBW.out.mono (by omega)).trans (hon.below (by omega) (by omega)))
    by_cases hlt : k < c.pods.length
    · obtain ⟨x, hxk⟩ : ∃ x, c.pods[k]? = some x := ⟨c.pods[k], by simp [hlt]⟩
      have HX := hid hxk
      clear hxk
      obtain ⟨b, off, he, hb, c0, c1, c2, c3⟩ := HP.out.2 k x HX.out
      cases he
      have e0 : wr.cell? ⟨gp, k * 4, none⟩ = some (.int .i64 x.host) := by rw [hrow _ (by omega)]; exact row_cell HGR.out ((flat_at oCells 4 lens_pod c.pods _ k x HX.out 0 (by omega)).trans rfl)
      have d0 : wr.cell? ⟨b, off + k * 4, none⟩ = some (.int .i64 x.host) := by rw [HBR.out.cell (p := ⟨b, _, none⟩) hb]; exact c0
      have e1 : wr.cell? ⟨gp, k * 4 + 1, none⟩ = some (.int .i64 x.ip) := by rw [hrow _ (by omega)]; exact row_cell HGR.out ((flat_at oCells 4 lens_pod c.pods _ k x HX.out 1 (by omega)).trans rfl)
      have d1 : wr.cell? ⟨b, off + k * 4 + 1, none⟩ = some (.int .i64 x.ip) := by rw [HBR.out.cell (p := ⟨b, _, none⟩) hb]; exact c1
      have e2 : wr.cell? ⟨gp, k * 4 + 2, none⟩ = some (.int .i64 x.space) := by rw [hrow _ (by omega)]; exact row_cell HGR.out ((flat_at oCells 4 lens_pod c.pods _ k x HX.out 2 (by omega)).trans rfl)
      have d2 : wr.cell? ⟨b, off + k * 4 + 2, none⟩ = some (.int .i64 x.space) := by rw [HBR.out.cell (p := ⟨b, _, none⟩) hb]; exact c2
      have e3 : wr.cell? ⟨gp, k * 4 + 3, none⟩ = some (.int .i64 x.labels) := by rw [hrow _ (by omega)]; exact row_cell HGR.out ((flat_at oCells 4 lens_pod c.pods _ k x HX.out 3 (by omega)).trans rfl)
      have d3 : wr.cell? ⟨b, off + k * 4 + 3, none⟩ = some (.int .i64 x.labels) := by rw [HBR.out.cell (p := ⟨b, _, none⟩) hb]; exact c3
      clear hown hrow hon c0 c1 c2 c3
      go_wp2
      refine wp_region_grow (by kernel_rfl) (by kernel_rfl) ?_
      repeat (go_big_quiet_step (fail))
      refine wpQuiet_nil ?_
      intro w1 hb1
      obtain ⟨hc1, hf1⟩ := bcell hb1
      have hz1 := hb_lt hb1
      have hfr : ∀ o, w1.frozen? ⟨gp, o, none⟩ = false := fun o => by rw [hb1.frozen (p := ⟨gp, o, none⟩) (by show gp < _; omega)]; exact HOW.out.2 o
      have k0 := cell_to e0 hb1
      have k1 := cell_to e1 hb1
      have k2 := cell_to e2 hb1
      have k3 := cell_to e3 hb1
      have HO1 := hid (own_heap HOW.out (hb1.block gp (by omega)))
      have HB1 := hid hb1
      clear hc1 hf1 hz1 hb1 e0 e1 e2 e3 d0 d1 d2 d3
      go_wp2
      refine ⟨⟨k + 1, by omega, by go_num, by simp, sets_own _ _ (k * 4) _ [.int .i64 0, .int .i64 7, .int .i64 0, .int .i64 0] HO1.out, fun o ho => ?_, (HON.out.ext HB1.out).trans (sets_only _ gp (k * 4) [.int .i64 0, .int .i64 7, .int .i64 0, .int .i64 0])⟩, by simp [intOf]; omega⟩
      exact (sets_behind _ _ (k * 4) [.int .i64 0, .int .i64 7, .int .i64 0, .int .i64 0] _ (by simp; omega)).trans ((HB1.out.cell (p := ⟨gp, o, none⟩) (by show gp < _; omega)).trans (HRW.out o (by omega)))
    · have HOV := hid (show Only lo m w wr from (Only.of_below HBW.out).trans (hon.mono hgp1 (by omega)))
      clear hown hrow hon x0 x1 y0 y1
      obtain ⟨V, hV⟩ : ∃ V, V = wr := ⟨_, rfl⟩
      subst hV
      have hsV := HOV.out.2.1
      have HLV := hid (LnL.to (eLnPol.stab w (some qa) c.pols gq) HL.out (HOV.out.heap (k := gq) (by omega) (by omega)) (fun j h1 h2 => HOV.out.heap (by omega) (by omega)))
      have z7 : V.cell? ⟨gq, c.pols.length * 6, none⟩ = some (.int .i64 (-7)) := HOV.out.cell HZ.out (by omega)
      have HZV := hid z7
      go_wp2
      clear z7
      go_loopw [5, 9] (fun ok i wr => ∃ k : Nat, k ≤ c.pols.length ∧ i = .int .i64 k ∧ ok = .bool true ∧ own wr gq ((c.pols.length + 1) * 6) ∧ (∀ o, k * 6 ≤ o → wr.cell? ⟨gq, o, none⟩ = V.cell? ⟨gq, o, none⟩) ∧ Only gq (f k) V wr) (fun _ i _ => c.pols.length - (intOf i).toNat)
      case atStart => exact ⟨0, Nat.zero_le _, rfl, by simp, HLV.out.1, fun o _ => rfl, Only.refl _ _ _⟩
      case round =>
        obtain ⟨k, hk, rfl, rfl, hown, hrow, hon⟩ := hrel
        have HOW := hid hown
        have HRW := hid hrow
        have HON := hid hon
        have hfk := HMO.out k c.pols.length hk (Nat.le_refl _)
        have hf0 := HMO.out 0 k (Nat.zero_le _) hk
        have hswr := hon.2.1
        have q1 := hon.cell t1 (by omega)
        have q0 := hon.cell z1 (by omega)
        have HBK := hid (show Below B w wr from HBR.out.trans (hon.below (by omega) (by omega)))
        by_cases hlt : k < c.pols.length
        · obtain ⟨x, hxk⟩ : ∃ x, c.pols[k]? = some x := ⟨c.pols[k], by simp [hlt]⟩
          have HX := hid hxk
          have hfk1 := HMO.out (k + 1) c.pols.length hlt (Nat.le_refl _)
          have hfkk := HMO.out k (k + 1) (by omega) hlt
          obtain ⟨mm, s, t, hm1, hm2, e0, e1, e2, e3, e4, e5, hln1, hln2⟩ := HLV.out.2.2.2 k hlt x hxk
          obtain ⟨va, vn, vc, hve⟩ := hln1.sl
          subst hve
          obtain ⟨ta, tn, tc, hte⟩ := hln2.sl
          subst hte
          clear hxk
          obtain ⟨b, off, he, hb, c0, c1, c2, c3, ⟨oa, oc, c4, ho⟩, ia, ic, c5, hi'⟩ := HQ.out.2 k x HX.out
          cases he
          rw [subA_eq (n := x.outs.length) (c := oc) (by rwa [Nat.add_assoc] at c4)] at hln1
          rw [subA_eq (n := x.ins.length) (c := ic) (by rwa [Nat.add_assoc] at c5)] at hln2
          have HO := hid ho
          have HI := hid hi'
          have HL1 := hid hln1
          have HL2 := hid hln2
          have d0 : wr.cell? ⟨gq, k * 6, none⟩ = some (.int .i64 x.space) := by rw [hrow _ (by omega)]; exact e0
          have d1 : wr.cell? ⟨gq, k * 6 + 1, none⟩ = some (.int .i64 x.need) := by rw [hrow _ (by omega)]; exact e1
          have d2 : wr.cell? ⟨gq, k * 6 + 2, none⟩ = some (.int .i64 x.ban) := by rw [hrow _ (by omega)]; exact e2
          have d3 : wr.cell? ⟨gq, k * 6 + 3, none⟩ = some (.int .i64 x.ways) := by rw [hrow _ (by omega)]; exact e3
          have d4 : wr.cell? ⟨gq, k * 6 + 4, none⟩ = some (.slice va vn vc) := by rw [hrow _ (by omega)]; exact e4
          have d5 : wr.cell? ⟨gq, k * 6 + 5, none⟩ = some (.slice ta tn tc) := by rw [hrow _ (by omega)]; exact e5
          have g0 : wr.cell? ⟨b, off + k * 6, none⟩ = some (.int .i64 x.space) := by rw [HBK.out.cell (p := ⟨b, _, none⟩) hb]; exact c0
          have g1 : wr.cell? ⟨b, off + k * 6 + 1, none⟩ = some (.int .i64 x.need) := by rw [HBK.out.cell (p := ⟨b, _, none⟩) hb]; exact c1
          have g2 : wr.cell? ⟨b, off + k * 6 + 2, none⟩ = some (.int .i64 x.ban) := by rw [HBK.out.cell (p := ⟨b, _, none⟩) hb]; exact c2
          have g3 : wr.cell? ⟨b, off + k * 6 + 3, none⟩ = some (.int .i64 x.ways) := by rw [HBK.out.cell (p := ⟨b, _, none⟩) hb]; exact c3
          have g4 : wr.cell? ⟨b, off + k * 6 + 4, none⟩ = some (.slice oa x.outs.length oc) := by rw [HBK.out.cell (p := ⟨b, _, none⟩) hb]; exact c4
          have g5 : wr.cell? ⟨b, off + k * 6 + 5, none⟩ = some (.slice ia x.ins.length ic) := by rw [HBK.out.cell (p := ⟨b, _, none⟩) hb]; exact c5
          clear e0 e1 e2 e3 e4 e5 c0 c1 c2 c3 c4 c5 ho hi' hln1 hln2 hown hrow hon z0 z1 t0 t1
          have i0 : (0 : Int) ≤ (k : Int) := by omega
          have i1 : (k : Int) < (c.pols.length : Int) := by omega
          have i2 : (k : Int) < (c.pols.length : Int) + 1 := by omega
          have i3 : (k : Int) < ((c.pols.length + 1 : Nat) : Int) := by omega
          have i4 : k < c.pols.length + 1 := by omega
          go_wp2
          go_region_held3 (fun w' => w'.cell? ⟨gq, k * 6, none⟩ = some (.int .i64 x.space) ∧ w'.cell? ⟨gq, k * 6 + 1, none⟩ = some (.int .i64 x.need) ∧ w'.cell? ⟨gq, k * 6 + 2, none⟩ = some (.int .i64 x.ban) ∧ w'.cell? ⟨gq, k * 6 + 3, none⟩ = some (.int .i64 x.ways) ∧ w'.cell? ⟨gq, k * 6 + 4, none⟩ = some (.slice va vn vc) ∧ w'.cell? ⟨gq, k * 6 + 5, none⟩ = some (.slice ta tn tc) ∧ w'.cell? ⟨b, off + k * 6, none⟩ = some (.int .i64 x.space) ∧ w'.cell? ⟨b, off + k * 6 + 1, none⟩ = some (.int .i64 x.need) ∧ w'.cell? ⟨b, off + k * 6 + 2, none⟩ = some (.int .i64 x.ban) ∧ w'.cell? ⟨b, off + k * 6 + 3, none⟩ = some (.int .i64 x.ways) ∧ w'.cell? ⟨b, off + k * 6 + 4, none⟩ = some (.slice oa x.outs.length oc) ∧ w'.cell? ⟨b, off + k * 6 + 5, none⟩ = some (.slice ia x.ins.length ic) ∧ w'.cell? ⟨w.heap.size + 1, 1, none⟩ = some (.slice (some ⟨b, off, none⟩) c.pols.length qc)) (go_keep) (first
            | (go_at_call 87; refine (backPolicy_any x oa ia oc ic va ta vn vc tn tc B (f k) mm (f (k + 1)) _ (rdRules.ext HBK.out.drew (Nat.le_refl _) HO.out) (rdRules.ext HBK.out.drew (Nat.le_refl _) HI.out) (by omega) hm1 hm2 (by show f (k + 1) ≤ wr.heap.size; omega) (lnRules.fwd HO.out HBK.out.drew (HL1.out.heap fun j h1 h2 => HON.out.heap (by omega) (by omega))) (lnRules.fwd HI.out HBK.out.drew (HL2.out.heap fun j h1 h2 => HON.out.heap (by omega) (by omega)))).mono ?_; rintro e w1 ⟨rfl, hon1⟩; have d0' := hon1.cell (g := gq) (o := k * 6) (v := .int .i64 x.space) (by simp [d0]) (by omega); have d1' := hon1.cell (g := gq) (o := k * 6 + 1) (v := .int .i64 x.need) (by simp [d1]) (by omega); have d2' := hon1.cell (g := gq) (o := k * 6 + 2) (v := .int .i64 x.ban) (by simp [d2]) (by omega); have d3' := hon1.cell (g := gq) (o := k * 6 + 3) (v := .int .i64 x.ways) (by simp [d3]) (by omega); have d4' := hon1.cell (g := gq) (o := k * 6 + 4) (v := .slice va vn vc) (by simp [d4]) (by omega); have d5' := hon1.cell (g := gq) (o := k * 6 + 5) (v := .slice ta tn tc) (by simp [d5]) (by omega); have g0' := hon1.cell (g := b) (o := off + k * 6) (v := .int .i64 x.space) (by simp [g0]) (by omega); have g1' := hon1.cell (g := b) (o := off + k * 6 + 1) (v := .int .i64 x.need) (by simp [g1]) (by omega); have g2' := hon1.cell (g := b) (o := off + k * 6 + 2) (v := .int .i64 x.ban) (by simp [g2]) (by omega); have g3' := hon1.cell (g := b) (o := off + k * 6 + 3) (v := .int .i64 x.ways) (by simp [g3]) (by omega); have g4' := hon1.cell (g := b) (o := off + k * 6 + 4) (v := .slice oa x.outs.length oc) (by simp [g4]) (by omega); have g5' := hon1.cell (g := b) (o := off + k * 6 + 5) (v := .slice ia x.ins.length ic) (by simp [g5]) (by omega); have q1' := hon1.cell (g := w.heap.size + 1) (o := 1) (v := .slice (some ⟨b, off, none⟩) c.pols.length qc) (by simp [q1]) (by omega)))
          have HN1 := hid hon1
          have HO1 := hid (show own w1 gq ((c.pols.length + 1) * 6) from own_heap HOW.out (hon1.heap (k := gq) (by show gq < wr.heap.size; omega) (by omega)))
          have hfr := HO1.out.2
          have HON1 := hid (show Only gq (f (k + 1)) V w1 from (HON.out.drew.mono (Nat.le_refl _) hfkk).trans (hon1.mono (by omega) (Nat.le_refl _)))
          clear hon1 q1' g0' g1' g2' g3' g4' g5' d0 d1 d2 d3 d4 d5 g0 g1 g2 g3 g4 g5 q1 q0
          go_wp2
          refine ⟨⟨k + 1, by omega, by go_num, by simp, sets_own _ _ (k * 6) _ [.int .i64 0, .int .i64 0, .int .i64 0, .int .i64 3, .slice none 0 0, .slice none 0 0] HO1.out, fun o ho => ?_, HON1.out.trans ((sets_only _ gq (k * 6) [.int .i64 0, .int .i64 0, .int .i64 0, .int .i64 3, .slice none 0 0, .slice none 0 0]).mono (Nat.le_refl _) (by omega))⟩, by simp [intOf]; omega⟩
          exact (sets_behind _ _ (k * 6) [.int .i64 0, .int .i64 0, .int .i64 0, .int .i64 3, .slice none 0 0, .slice none 0 0] _ (by simp; omega)).trans ((cell_heap (HN1.out.heap (k := gq) (by show gq < wr.heap.size; omega) (by omega))).trans (HRW.out o (by omega)))
        · clear hown hrow hon
          go_wp2
          go_ret
          exact ⟨rfl, (HOV.out.mono (Nat.le_refl _) hmh).trans (HON.out.mono (by omega) (by omega))⟩
theorem lent_any (c : DClu) (pa qa : Option Addr) (pc qc : Nat) (w : World) (hp : rdPods w.heap.size w pa c.pods) (hq : rdPols w.heap.size w qa c.pols) :
    Calls Tryz.prog 73 #[.agg #[.slice pa c.pods.length pc, .slice qa c.pols.length qc]] w
      fun e w' => ∃ m sa sn sc ta tn tc, e = .returned (.agg #[.slice sa sn sc, .slice ta tn tc]) ∧ w.heap.size ≤ m ∧ m ≤ w'.heap.size ∧ lnPods w.heap.size m w' pa (.slice sa sn sc) c.pods ∧ lnPols m w'.heap.size w w' qa (.slice ta tn tc) c.pols ∧ Below w.heap.size w w' := by
  cases pa with
  | none =>
    have e1 := nil_of hp
    have l1 : c.pods.length = 0 := by rw [e1]; rfl
    cases qa with
    | none =>
      have e2 := nil_of hq
      have l2 : c.pols.length = 0 := by rw [e2]; rfl
      rw [l1, l2]
      exact lent_nn c pc qc w e1 e2
    | some qa =>
      rw [l1]
      exact lent_nq c qa pc qc w e1 hq
  | some pa =>
    cases qa with
    | none =>
      have e2 := nil_of hq
      have l2 : c.pols.length = 0 := by rw [e2]; rfl
      rw [l2]
      exact lent_pn c pa pc qc w hp e2
    | some qa => exact lent_pq c pa qa pc qc w hp hq
theorem back_any (c : DClu) (pa qa : Option Addr) (pc qc : Nat) (sa ta : Option Addr) (sn sc tn tc B lo m hi : Nat) (w : World) (hp : rdPods B w pa c.pods) (hq : rdPols B w qa c.pols) (hB : B ≤ lo) (hlm : lo ≤ m) (hmh : m ≤ hi) (hs : hi ≤ w.heap.size)
    (h1 : lnPods lo m w pa (.slice sa sn sc) c.pods) (h2 : lnPols m hi w w qa (.slice ta tn tc) c.pols) :
    Calls Tryz.prog 74 #[.agg #[.slice sa sn sc, .slice ta tn tc], .agg #[.slice pa c.pods.length pc, .slice qa c.pols.length qc]] w fun e w' => e = .returned (.bool true) ∧ Only lo hi w w' := by
  rcases h1 with ⟨rfl, e1, e2⟩ | ⟨pa', gp, rfl, g1, g2, e1, g3⟩
  · have l1 : c.pods.length = 0 := by rw [e2]; rfl
    rw [e1, l1]
    rcases h2 with ⟨rfl, e3, e4⟩ | ⟨qa', gq, f, rfl, k1, k2, e3, k3, k4, k5⟩
    · have l2 : c.pols.length = 0 := by rw [e4]; rfl
      rw [e3, l2]
      exact back_nn c pc qc B lo m hi w hB hlm hmh hs
    · rw [e3]
      exact back_nq c qa' gq f pc qc B lo m hi w hB hlm hmh hs hq k1 k2 k3 k4 k5
  · rw [e1]
    rcases h2 with ⟨rfl, e3, e4⟩ | ⟨qa', gq, f, rfl, k1, k2, e3, k3, k4, k5⟩
    · have l2 : c.pols.length = 0 := by rw [e4]; rfl
      rw [e3, l2]
      exact back_pn c pa' gp pc qc B lo m hi w hB hlm hmh hs hp g1 g2 g3
    · rw [e3]
      exact back_pq c pa' gp qa' gq f pc qc B lo m hi w hB hlm hmh hs hp g1 g2 g3 hq k1 k2 k3 k4 k5
theorem lnPols.fwd {lo hi B : Nat} {w0 w1 w : World} {a : Option Addr} {v : Value} {l : List DPol} (hr : rdPols B w0 a l) (hB : Below B w0 w1) (h : lnPols lo hi w0 w a v l) : lnPols lo hi w1 w a v l := by
  rcases h with h | ⟨a', g, f, h1, h2, h3, h4, ⟨h5, h5b, h5c, h5d⟩, h6, h7⟩
  · exact Or.inl h
  · refine Or.inr ⟨a', g, f, h1, h2, h3, h4, ⟨h5, h5b, h5c, fun i hi x hx => ?_⟩, h6, h7⟩
    obtain ⟨m, s, t, g1, g2, c0, c1, c2, c3, g3, g4, g5, g6⟩ := h5d i hi x hx
    obtain ⟨b, off, he, hb, _, _, _, _, ⟨oa, oc, q4, ho⟩, ia, ic, q5, hi'⟩ := hr.2 i x hx
    subst he
    have q4' : w1.cell? ⟨b, off + i * 6 + 4, none⟩ = some (.slice oa x.outs.length oc) := by rw [hB.cell (p := ⟨b, _, none⟩) hb]; exact q4
    have q5' : w1.cell? ⟨b, off + i * 6 + 5, none⟩ = some (.slice ia x.ins.length ic) := by rw [hB.cell (p := ⟨b, _, none⟩) hb]; exact q5
    refine ⟨m, s, t, g1, g2, c0, c1, c2, c3, g3, g4, ?_, ?_⟩
    · rw [subA_eq (n := x.outs.length) (c := oc) (by rwa [Nat.add_assoc] at q4)] at g5
      rw [subA_eq (n := x.outs.length) (c := oc) (by rwa [Nat.add_assoc] at q4')]
      exact lnRules.fwd ho hB g5
    · rw [subA_eq (n := x.ins.length) (c := ic) (by rwa [Nat.add_assoc] at q5)] at g6
      rw [subA_eq (n := x.ins.length) (c := ic) (by rwa [Nat.add_assoc] at q5')]
      exact lnRules.fwd hi' hB g6
theorem lnBlks.rd {lo hi B : Nat} {w : World} {a : Option Addr} {v : Value} {l : List DBlk} (h : lnBlks lo hi w a v l) (hb : l.length * 16 ≤ 140737488351232) (hB : hi ≤ B) : ∃ s c, v = .slice s l.length c ∧ rdBlks B w s l := by
  rcases h with ⟨_, rfl, rfl⟩ | ⟨a', g, _, h2, h3, rfl, h5⟩
  · exact ⟨none, 0, rfl, by simp, fun i x hx => by simp at hx⟩
  · exact ⟨_, _, rfl, hb, fun i x hx => ⟨g, 0, rfl, by omega, by
      have e : 0 + i * 2 = i * 2 := Nat.zero_add _
      rw [e]
      exact ⟨row_cell h5 ((flat_at bCells 2 lens_blk l _ i x hx 0 (by omega)).trans rfl), row_cell h5 ((flat_at bCells 2 lens_blk l _ i x hx 1 (by omega)).trans rfl)⟩⟩⟩
theorem lnPorts.rd {lo hi B : Nat} {w : World} {a : Option Addr} {v : Value} {l : List DPort} (h : lnPorts lo hi w a v l) (hb : l.length * 24 ≤ 140737488351232) (hB : hi ≤ B) : ∃ s c, v = .slice s l.length c ∧ rdPorts B w s l := by
  rcases h with ⟨_, rfl, rfl⟩ | ⟨a', g, _, h2, h3, rfl, h5⟩
  · exact ⟨none, 0, rfl, by simp, fun i x hx => by simp at hx⟩
  · exact ⟨_, _, rfl, hb, fun i x hx => ⟨g, 0, rfl, by omega, by
      have e : 0 + i * 3 = i * 3 := Nat.zero_add _
      rw [e]
      exact ⟨row_cell h5 ((flat_at tCells 3 lens_prt l _ i x hx 0 (by omega)).trans rfl), row_cell h5 ((flat_at tCells 3 lens_prt l _ i x hx 1 (by omega)).trans rfl), row_cell h5 ((flat_at tCells 3 lens_prt l _ i x hx 2 (by omega)).trans rfl)⟩⟩⟩
theorem lnPods.rd {lo hi B : Nat} {w : World} {a : Option Addr} {v : Value} {l : List DPod} (h : lnPods lo hi w a v l) (hb : l.length * 32 ≤ 140737488351232) (hB : hi ≤ B) : ∃ s c, v = .slice s l.length c ∧ l.length ≤ c ∧ rdPods B w s l := by
  rcases h with ⟨_, rfl, rfl⟩ | ⟨a', g, _, h2, h3, rfl, h5⟩
  · exact ⟨none, 0, rfl, Nat.le_refl _, by simp, fun i x hx => by simp at hx⟩
  · exact ⟨_, _, rfl, by omega, hb, fun i x hx => ⟨g, 0, rfl, by omega, by
      have e : 0 + i * 4 = i * 4 := Nat.zero_add _
      rw [e]
      exact ⟨row_cell h5 ((flat_at oCells 4 lens_pod l _ i x hx 0 (by omega)).trans rfl), row_cell h5 ((flat_at oCells 4 lens_pod l _ i x hx 1 (by omega)).trans rfl), row_cell h5 ((flat_at oCells 4 lens_pod l _ i x hx 2 (by omega)).trans rfl), row_cell h5 ((flat_at oCells 4 lens_pod l _ i x hx 3 (by omega)).trans rfl)⟩⟩⟩
theorem lnPeers.rd {lo hi B B0 : Nat} {w0 w w1 : World} {a a1 : Option Addr} {v : Value} {l : List DPeer} (h : lnPeers lo hi w0 w a v l) (hr : rdPeers B0 w1 a1 l) (hB : hi ≤ B) : ∃ s c, v = .slice s l.length c ∧ rdPeers B w s l := by
  rcases h with ⟨_, rfl, rfl⟩ | ⟨a', g, f, _, h2, h3, rfl, ⟨h5, h5b, h5c, h5d⟩, h6, h7⟩
  · exact ⟨none, 0, rfl, by simp, fun i x hx => by simp at hx⟩
  · refine ⟨_, _, rfl, hr.1, fun i x hx => ⟨g, 0, rfl, by omega, ?_⟩⟩
    have hi' : i < l.length := (List.getElem?_eq_some_iff.1 hx).1
    obtain ⟨e0, e1, e2, e3, e4, e5, s, e6, e7⟩ := h5d i hi' x hx
    obtain ⟨_, _, _, _, _, _, _, _, _, _, ea, ec, _, hre⟩ := hr.2 i x hx
    have hm := mono_le h5c (i + 1) l.length (by omega) (Nat.le_refl _)
    obtain ⟨s', c', rfl, hrd⟩ := e7.rd hre.1 (B := B) (by omega)
    have e : 0 + i * 7 = i * 7 := Nat.zero_add _
    rw [e]
    exact ⟨e0, e1, e2, e3, e4, e5, s', c', e6, hrd⟩
theorem lnRules.rd {lo hi B B0 : Nat} {w0 w w1 : World} {a a1 : Option Addr} {v : Value} {l : List DRule} (h : lnRules lo hi w0 w a v l) (hr : rdRules B0 w1 a1 l) (hB : hi ≤ B) : ∃ s c, v = .slice s l.length c ∧ rdRules B w s l := by
  rcases h with ⟨_, rfl, rfl⟩ | ⟨a', g, f, _, h2, h3, rfl, ⟨h5, h5b, h5c, h5d⟩, h6, h7⟩
  · exact ⟨none, 0, rfl, by simp, fun i x hx => by simp at hx⟩
  · refine ⟨_, _, rfl, hr.1, fun i x hx => ⟨g, 0, rfl, by omega, ?_⟩⟩
    have hi' : i < l.length := (List.getElem?_eq_some_iff.1 hx).1
    obtain ⟨m, s, t, m1, m2, e0, e1, e2, e3⟩ := h5d i hi' x hx
    obtain ⟨_, _, _, _, ⟨pa, pc, _, hrp⟩, qa, qc, _, hrq⟩ := hr.2 i x hx
    have hm := mono_le h5c (i + 1) l.length (by omega) (Nat.le_refl _)
    obtain ⟨s', c', rfl, hrd⟩ := e2.rd hrp (B := B) (by omega)
    obtain ⟨t', d', rfl, hrd2⟩ := e3.rd hrq.1 (B := B) (by omega)
    have e : 0 + i * 2 = i * 2 := Nat.zero_add _
    rw [e]
    exact ⟨⟨s', c', e0, hrd⟩, t', d', e1, hrd2⟩
theorem lnPols.rd {lo hi B B0 : Nat} {w0 w w1 : World} {a a1 : Option Addr} {v : Value} {l : List DPol} (h : lnPols lo hi w0 w a v l) (hr : rdPols B0 w1 a1 l) (hB : hi ≤ B) : ∃ s c, v = .slice s l.length c ∧ rdPols B w s l := by
  rcases h with ⟨_, rfl, rfl⟩ | ⟨a', g, f, _, h2, h3, rfl, ⟨h5, h5b, h5c, h5d⟩, h6, h7⟩
  · exact ⟨none, 0, rfl, by simp, fun i x hx => by simp at hx⟩
  · refine ⟨_, _, rfl, hr.1, fun i x hx => ⟨g, 0, rfl, by omega, ?_⟩⟩
    have hi' : i < l.length := (List.getElem?_eq_some_iff.1 hx).1
    obtain ⟨m, s, t, m1, m2, c0, c1, c2, c3, e0, e1, e2, e3⟩ := h5d i hi' x hx
    obtain ⟨_, _, _, _, _, _, _, _, ⟨oa, oc, _, hro⟩, ia, ic, _, hri⟩ := hr.2 i x hx
    have hm := mono_le h5c (i + 1) l.length (by omega) (Nat.le_refl _)
    obtain ⟨s', c', rfl, hrd⟩ := e2.rd hro (B := B) (by omega)
    obtain ⟨t', d', rfl, hrd2⟩ := e3.rd hri (B := B) (by omega)
    have e : 0 + i * 6 = i * 6 := Nat.zero_add _
    rw [e]
    exact ⟨c0, c1, c2, c3, ⟨s', c', e0, hrd⟩, t', d', e1, hrd2⟩
end Go.Proofs.YtmkjlhplgcifiaaGreat
namespace Go.Proofs.YtmkjlhplgcifiaaGreat
open Go.ChangeShapes Go.WideShapes Go.ChangeAt Go.RowKit
set_option linter.unusedVariables false
set_option linter.unusedSimpArgs false
attribute [local simp] World.cell?_grow World.cell?_alloc_there
attribute [local go_sem] World.cell?_grow World.cell?_alloc_there eqg_blk std_blk eqg_pod std_pod eqg_sel std_sel eqg_prt std_prt
attribute [local go_sem ↓] eql_blk eql_sel neq_sel eql_prt eql_pod met_in1 met_in2 met_re1 met_re2 met_has1 met_has2
theorem num_any (n : Int) (w : World) : Calls Tryz.prog 76 #[.int .i64 n] w fun e w' => e = .returned (.int .i64 n) ∧ w' = w := by
  go_enter Tryz.func76, Tryz.ntmps76
  go_wp2
  go_ret
  exact ⟨rfl, rfl⟩
end Go.Proofs.YtmkjlhplgcifiaaGreat
