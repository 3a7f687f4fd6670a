/-
  palisaderef: Tables.Decide; palisadelaw: mark, table.
-/
import Derived.Test.YtmkjlhplgcifiaaGreatH20
import Derived.Test.YtmkjlhplgcifiaaGreatH21
import Derived.Test.YtmkjlhplgcifiaaGreatH22
import Derived.Test.YtmkjlhplgcifiaaGreatH27
namespace Go.Proofs.YtmkjlhplgcifiaaGreat
open Go.ChangeShapes Go.WideShapes Go.ChangeAt Go.RowKit
set_option linter.unusedVariables false
set_option linter.unusedSimpArgs false
attribute [local simp] World.cell?_grow World.cell?_alloc_there
attribute [local go_sem] World.cell?_grow World.cell?_alloc_there eqg_blk std_blk eqg_pod std_pod eqg_sel std_sel eqg_prt std_prt eqg_row std_row
attribute [local go_sem ↓] eql_blk eql_sel neq_sel eql_prt eql_pod met_in1 met_in2 met_re1 met_re2 met_has1 met_has2 met_bl1 met_bl2 neq_row
def markRow (n : Nat) : DRow := ⟨0, 0, 0, 0, 0, -1000 - (n : Int) / 4, 0, false⟩
theorem mark_any (n : Nat) (w : World) (hn : n ≤ 4611686018427387904) : Calls Tryz.prog 55 #[.int .i64 n] w fun e w' => e = .returned (.agg #[.int .i64 0, .int .i64 0, .int .i64 0, .int .i64 0, .int .i64 0, .int .i64 (-1000 - (n : Int) / 4), .int .i64 0, .bool false]) ∧ Below w.heap.size w w' := by
  go_enter Tryz.func55, Tryz.ntmps55
  go_wp2
  refine bodyPost_ret (v := .agg #[.int .i64 0, .int .i64 0, .int .i64 0, .int .i64 0, .int .i64 0, .int .i64 (-1000 - (n : Int) / 4), .int .i64 0, .bool false]) (by simp [results, Tryz.results55, go_sem]) rfl ⟨rfl, bel⟩
set_option maxHeartbeats 2000000 in
theorem refDec_host (rb : Nat) (host way : Int) (k : DPkt) (w : World) (h : (host, way) ∉ plist) :
    Calls Tryz.prog 79 #[.pointer (some ⟨rb, 0, none⟩), .int .i64 host, .int .i64 way, .agg #[.int .i64 k.src, .int .i64 k.dst, .int .i64 k.proto, .int .i64 k.port]] w fun e w' => e = .returned (.tuple #[.bool false, .int .i64 5]) ∧ Below w.heap.size w w' := by
  rw [plist_mem] at h
  by_cases h0 : host < 0
  · clear h
    go_enter Tryz.func79, Tryz.ntmps79
    go_wp2
    go_ret2
    exact ⟨rfl, bel⟩
  · by_cases h4 : 4 ≤ host
    · clear h
      go_enter Tryz.func79, Tryz.ntmps79
      go_wp2
      go_ret2
      exact ⟨rfl, bel⟩
    · have w1 : (way != 1) = true := by rw [bne_iff_ne]; omega
      have w2 : (way != 2) = true := by rw [bne_iff_ne]; omega
      clear h
      go_enter Tryz.func79, Tryz.ntmps79
      go_wp2
      go_ret2
      exact ⟨rfl, bel⟩
set_option maxHeartbeats 2000000 in
theorem refDec_pkt (rb : Nat) (host way : Int) (k : DPkt) (w : World) (h : (host, way) ∈ plist) (hk : pktOk k = false) :
    Calls Tryz.prog 79 #[.pointer (some ⟨rb, 0, none⟩), .int .i64 host, .int .i64 way, .agg #[.int .i64 k.src, .int .i64 k.dst, .int .i64 k.proto, .int .i64 k.port]] w fun e w' => e = .returned (.tuple #[.bool false, .int .i64 4]) ∧ Below w.heap.size w w' := by
  rw [plist_mem] at h
  obtain ⟨⟨h0, h3⟩, hw⟩ := h
  have h4 : ¬ 4 ≤ host := by omega
  have h00 : ¬ host < 0 := by omega
  have HK := hid hk
  clear hk
  rcases hw with rfl | rfl
  · go_enter Tryz.func79, Tryz.ntmps79
    go_wp2_with (go_at_call 83; refine (refPkt_any k _).mono ?_; rw [HK.out]; rintro e w1 ⟨rfl, hb1⟩; obtain ⟨hc1, hf1⟩ := bcell hb1; have hz1 := hb_lt hb1)
    go_ret2
    exact ⟨rfl, bel⟩
  · go_enter Tryz.func79, Tryz.ntmps79
    go_wp2_with (go_at_call 83; refine (refPkt_any k _).mono ?_; rw [HK.out]; rintro e w1 ⟨rfl, hb1⟩; obtain ⟨hc1, hf1⟩ := bcell hb1; have hz1 := hb_lt hb1)
    go_ret2
    exact ⟨rfl, bel⟩
set_option maxHeartbeats 2000000 in
theorem refDec_out (c : DClu) (rb : Nat) (host : Int) (k : DPkt) (pa qa : Option Addr) (pc qc : Nat) (w : World) (r0 : w.cell? ⟨rb, 0, none⟩ = some (.slice pa c.pods.length pc)) (r1 : w.cell? ⟨rb, 1, none⟩ = some (.slice qa c.pols.length qc)) (hp : rdPods w.heap.size w pa c.pods) (hq : rdPols w.heap.size w qa c.pols) (hc : cluOk c) (h0 : 0 ≤ host) (h3 : host ≤ 3) (hk : pktOk k = true) :
    Calls Tryz.prog 79 #[.pointer (some ⟨rb, 0, none⟩), .int .i64 host, .int .i64 1, .agg #[.int .i64 k.src, .int .i64 k.dst, .int .i64 k.proto, .int .i64 k.port]] w fun e w' => e = .returned (.tuple #[.bool (decd c host 1 k), .int .i64 0]) ∧ Below w.heap.size w w' := by
  have HP := hid hp
  have HQ := hid hq
  have HC := hid hc
  have HK := hid hk
  have hfar : 0 ≤ k.dst ∧ k.dst ≤ 4294967295 := by
    simp only [pktOk, Bool.and_eq_true, btw, decide_eq_true_eq] at hk
    exact hk.1.1.2
  have h4 : ¬ 4 ≤ host := by omega
  have h00 : ¬ host < 0 := by omega
  have hrb := cell_lt r0
  clear hp hq hc hk
  cases hpa : podAt c.pods k.src with
  | none =>
    have HD := hid (show decd c host 1 k = true by simp [decd, nearOf, hpa])
    have hix := podAt_ixn hpa
    clear hpa
    go_enter Tryz.func79, Tryz.ntmps79
    go_wp2_with (first
      | (go_at_call 83; refine (refPkt_any k _).mono ?_; rw [HK.out]; rintro e w1 ⟨rfl, hb1⟩; have x0 : w1.cell? ⟨rb, 0, none⟩ = some (.slice pa c.pods.length pc) := cell_to (cell_past r0) hb1; have x1 : w1.cell? ⟨rb, 1, none⟩ = some (.slice qa c.pols.length qc) := cell_to (cell_past r1) hb1; have y0 : w1.cell? ⟨w.heap.size, 0, none⟩ = some (.int .i64 k.src) := cell_to (by simp [go_sem]) hb1; have y1 : w1.cell? ⟨w.heap.size, 1, none⟩ = some (.int .i64 k.dst) := cell_to (by simp [go_sem]) hb1; have HB1 := hid (show Below w.heap.size w w1 from bel); clear hb1)
      | (go_at_call 110; refine (refAt_any c.pods _ pa qa pc c.pols.length qc _ (rdPods.to HP.out HB1.out)).mono ?_; rw [hix]; rintro e w2 ⟨rfl, hb2⟩; have HB2 := hid (Ext.trans HB1.out hb2); clear hb2))
    go_ret2
    exact ⟨by rw [HD.out]; rfl, HB2.out⟩
  | some p =>
    obtain ⟨j, hj, hix⟩ := podAt_ix hpa
    have hjl : j < c.pods.length := (List.getElem?_eq_some_iff.1 hj).1
    have hlen := HP.out.1
    have zj : (j : Int) < (c.pods.length : Int) := by omega
    have zj0 : ¬ (j : Int) < 0 := by omega
    obtain ⟨b, off, rfl, hb, c0, _, _, _⟩ := HP.out.2 j p hj
    by_cases hh : p.host = host
    · have hq : (p.host != host) = false := by simp [hh]
      have HD := hid (show decd c host 1 k = may c 1 k k.src k.dst by simp [decd, nearOf, farOf, hpa, hh])
      have HM := hid (fun w (hp : rdPods w.heap.size w (some ⟨b, off, none⟩) c.pods) (hq : rdPols w.heap.size w qa c.pols) => refMay_out c k k.src k.dst (some ⟨b, off, none⟩) qa pc qc w hp hq HC.out hfar.1 hfar.2)
      clear hpa hj
      go_enter Tryz.func79, Tryz.ntmps79
      go_wp2_with (first
        | (go_at_call 83; refine (refPkt_any k _).mono ?_; rw [HK.out]; rintro e w1 ⟨rfl, hb1⟩; have x0 : w1.cell? ⟨rb, 0, none⟩ = some (.slice (some ⟨b, off, none⟩) c.pods.length pc) := cell_to (cell_past r0) hb1; have x1 : w1.cell? ⟨rb, 1, none⟩ = some (.slice qa c.pols.length qc) := cell_to (cell_past r1) hb1; have y0 : w1.cell? ⟨w.heap.size, 0, none⟩ = some (.int .i64 k.src) := cell_to (by simp [go_sem]) hb1; have y1 : w1.cell? ⟨w.heap.size, 1, none⟩ = some (.int .i64 k.dst) := cell_to (by simp [go_sem]) hb1; have y2 : w1.cell? ⟨w.heap.size, 2, none⟩ = some (.int .i64 k.proto) := cell_to (by simp [go_sem]) hb1; have y3 : w1.cell? ⟨w.heap.size, 3, none⟩ = some (.int .i64 k.port) := cell_to (by simp [go_sem]) hb1; have HB1 := hid (show Below w.heap.size w w1 from bel); clear hb1)
        | (go_at_call 110; refine (refAt_any c.pods _ (some ⟨b, off, none⟩) qa pc c.pols.length qc _ (rdPods.to HP.out HB1.out)).mono ?_; rw [hix]; rintro e w2 ⟨rfl, hb2⟩; have z0 := cell_to x0 hb2; have z1 := cell_to x1 hb2; have v0 := cell_to y0 hb2; have v1 := cell_to y1 hb2; have v2 := cell_to y2 hb2; have v3 := cell_to y3 hb2; have HB2 := hid (Ext.trans HB1.out hb2); have d0 := cell_to c0 HB2.out; clear hb2 x0 x1 y0 y1 y2 y3))
      refine wp_region_grow (by kernel_rfl) (by kernel_rfl) ?_
      repeat (go_big_quiet_step (first
        | (go_at_call 108; exact Calls.grow_of (HM.out _ (rdPods.to (rdPods.to HP.out HB2.out) (World.below_grow _ _)) (rdPols.to (rdPols.to HQ.out HB2.out) (World.below_grow _ _))))))
      refine wpQuiet_nil ?_
      intro w1 hb1
      obtain ⟨hc1, hf1⟩ := bcell hb1
      have hz1 := hb_lt hb1
      go_wp2
      go_ret2
      exact ⟨by rw [HD.out]; rfl, Ext.trans HB2.out bel⟩
    · have hq : (p.host != host) = true := by simp [hh]
      have HD := hid (show decd c host 1 k = true by simp [decd, nearOf, hpa, hh])
      clear hpa hj
      go_enter Tryz.func79, Tryz.ntmps79
      go_wp2_with (first
        | (go_at_call 83; refine (refPkt_any k _).mono ?_; rw [HK.out]; rintro e w1 ⟨rfl, hb1⟩; have x0 : w1.cell? ⟨rb, 0, none⟩ = some (.slice (some ⟨b, off, none⟩) c.pods.length pc) := cell_to (cell_past r0) hb1; have x1 : w1.cell? ⟨rb, 1, none⟩ = some (.slice qa c.pols.length qc) := cell_to (cell_past r1) hb1; have y0 : w1.cell? ⟨w.heap.size, 0, none⟩ = some (.int .i64 k.src) := cell_to (by simp [go_sem]) hb1; have y1 : w1.cell? ⟨w.heap.size, 1, none⟩ = some (.int .i64 k.dst) := cell_to (by simp [go_sem]) hb1; have HB1 := hid (show Below w.heap.size w w1 from bel); clear hb1)
        | (go_at_call 110; refine (refAt_any c.pods _ (some ⟨b, off, none⟩) qa pc c.pols.length qc _ (rdPods.to HP.out HB1.out)).mono ?_; rw [hix]; rintro e w2 ⟨rfl, hb2⟩; have z0 := cell_to x0 hb2; have HB2 := hid (Ext.trans HB1.out hb2); have d0 := cell_to c0 HB2.out; clear hb2 x0 x1 y0 y1))
      go_ret2
      exact ⟨by rw [HD.out]; rfl, HB2.out⟩
set_option maxHeartbeats 2000000 in
theorem refDec_in (c : DClu) (rb : Nat) (host : Int) (k : DPkt) (pa qa : Option Addr) (pc qc : Nat) (w : World) (r0 : w.cell? ⟨rb, 0, none⟩ = some (.slice pa c.pods.length pc)) (r1 : w.cell? ⟨rb, 1, none⟩ = some (.slice qa c.pols.length qc)) (hp : rdPods w.heap.size w pa c.pods) (hq : rdPols w.heap.size w qa c.pols) (hc : cluOk c) (h0 : 0 ≤ host) (h3 : host ≤ 3) (hk : pktOk k = true) :
    Calls Tryz.prog 79 #[.pointer (some ⟨rb, 0, none⟩), .int .i64 host, .int .i64 2, .agg #[.int .i64 k.src, .int .i64 k.dst, .int .i64 k.proto, .int .i64 k.port]] w fun e w' => e = .returned (.tuple #[.bool (decd c host 2 k), .int .i64 0]) ∧ Below w.heap.size w w' := by
  have HP := hid hp
  have HQ := hid hq
  have HC := hid hc
  have HK := hid hk
  have hfar : 0 ≤ k.src ∧ k.src ≤ 4294967295 := by
    simp only [pktOk, Bool.and_eq_true, btw, decide_eq_true_eq] at hk
    exact hk.1.1.1
  have h4 : ¬ 4 ≤ host := by omega
  have h00 : ¬ host < 0 := by omega
  have hrb := cell_lt r0
  clear hp hq hc hk
  cases hpa : podAt c.pods k.dst with
  | none =>
    have HD := hid (show decd c host 2 k = true by simp [decd, nearOf, hpa])
    have hix := podAt_ixn hpa
    clear hpa
    go_enter Tryz.func79, Tryz.ntmps79
    go_wp2_with (first
      | (go_at_call 83; refine (refPkt_any k _).mono ?_; rw [HK.out]; rintro e w1 ⟨rfl, hb1⟩; have x0 : w1.cell? ⟨rb, 0, none⟩ = some (.slice pa c.pods.length pc) := cell_to (cell_past r0) hb1; have x1 : w1.cell? ⟨rb, 1, none⟩ = some (.slice qa c.pols.length qc) := cell_to (cell_past r1) hb1; have y0 : w1.cell? ⟨w.heap.size, 0, none⟩ = some (.int .i64 k.src) := cell_to (by simp [go_sem]) hb1; have y1 : w1.cell? ⟨w.heap.size, 1, none⟩ = some (.int .i64 k.dst) := cell_to (by simp [go_sem]) hb1; have HB1 := hid (show Below w.heap.size w w1 from bel); clear hb1)
      | (go_at_call 110; refine (refAt_any c.pods _ pa qa pc c.pols.length qc _ (rdPods.to HP.out HB1.out)).mono ?_; rw [hix]; rintro e w2 ⟨rfl, hb2⟩; have HB2 := hid (Ext.trans HB1.out hb2); clear hb2))
    go_ret2
    exact ⟨by rw [HD.out]; rfl, HB2.out⟩
  | some p =>
    obtain ⟨j, hj, hix⟩ := podAt_ix hpa
    have hjl : j < c.pods.length := (List.getElem?_eq_some_iff.1 hj).1
    have hlen := HP.out.1
    have zj : (j : Int) < (c.pods.length : Int) := by omega
    have zj0 : ¬ (j : Int) < 0 := by omega
    obtain ⟨b, off, rfl, hb, c0, _, _, _⟩ := HP.out.2 j p hj
    by_cases hh : p.host = host
    · have hq : (p.host != host) = false := by simp [hh]
      have HD := hid (show decd c host 2 k = may c 2 k k.dst k.src by simp [decd, nearOf, farOf, hpa, hh])
      have HM := hid (fun w (hp : rdPods w.heap.size w (some ⟨b, off, none⟩) c.pods) (hq : rdPols w.heap.size w qa c.pols) => refMay_in c k k.dst k.src (some ⟨b, off, none⟩) qa pc qc w hp hq HC.out hfar.1 hfar.2)
      clear hpa hj
      go_enter Tryz.func79, Tryz.ntmps79
      go_wp2_with (first
        | (go_at_call 83; refine (refPkt_any k _).mono ?_; rw [HK.out]; rintro e w1 ⟨rfl, hb1⟩; have x0 : w1.cell? ⟨rb, 0, none⟩ = some (.slice (some ⟨b, off, none⟩) c.pods.length pc) := cell_to (cell_past r0) hb1; have x1 : w1.cell? ⟨rb, 1, none⟩ = some (.slice qa c.pols.length qc) := cell_to (cell_past r1) hb1; have y0 : w1.cell? ⟨w.heap.size, 0, none⟩ = some (.int .i64 k.src) := cell_to (by simp [go_sem]) hb1; have y1 : w1.cell? ⟨w.heap.size, 1, none⟩ = some (.int .i64 k.dst) := cell_to (by simp [go_sem]) hb1; have y2 : w1.cell? ⟨w.heap.size, 2, none⟩ = some (.int .i64 k.proto) := cell_to (by simp [go_sem]) hb1; have y3 : w1.cell? ⟨w.heap.size, 3, none⟩ = some (.int .i64 k.port) := cell_to (by simp [go_sem]) hb1; have HB1 := hid (show Below w.heap.size w w1 from bel); clear hb1)
        | (go_at_call 110; refine (refAt_any c.pods _ (some ⟨b, off, none⟩) qa pc c.pols.length qc _ (rdPods.to HP.out HB1.out)).mono ?_; rw [hix]; rintro e w2 ⟨rfl, hb2⟩; have z0 := cell_to x0 hb2; have z1 := cell_to x1 hb2; have v0 := cell_to y0 hb2; have v1 := cell_to y1 hb2; have v2 := cell_to y2 hb2; have v3 := cell_to y3 hb2; have HB2 := hid (Ext.trans HB1.out hb2); have d0 := cell_to c0 HB2.out; clear hb2 x0 x1 y0 y1 y2 y3))
      refine wp_region_grow (by kernel_rfl) (by kernel_rfl) ?_
      repeat (go_big_quiet_step (first
        | (go_at_call 108; exact Calls.grow_of (HM.out _ (rdPods.to (rdPods.to HP.out HB2.out) (World.below_grow _ _)) (rdPols.to (rdPols.to HQ.out HB2.out) (World.below_grow _ _))))))
      refine wpQuiet_nil ?_
      intro w1 hb1
      obtain ⟨hc1, hf1⟩ := bcell hb1
      have hz1 := hb_lt hb1
      go_wp2
      go_ret2
      exact ⟨by rw [HD.out]; rfl, Ext.trans HB2.out bel⟩
    · have hq : (p.host != host) = true := by simp [hh]
      have HD := hid (show decd c host 2 k = true by simp [decd, nearOf, hpa, hh])
      clear hpa hj
      go_enter Tryz.func79, Tryz.ntmps79
      go_wp2_with (first
        | (go_at_call 83; refine (refPkt_any k _).mono ?_; rw [HK.out]; rintro e w1 ⟨rfl, hb1⟩; have x0 : w1.cell? ⟨rb, 0, none⟩ = some (.slice (some ⟨b, off, none⟩) c.pods.length pc) := cell_to (cell_past r0) hb1; have x1 : w1.cell? ⟨rb, 1, none⟩ = some (.slice qa c.pols.length qc) := cell_to (cell_past r1) hb1; have y0 : w1.cell? ⟨w.heap.size, 0, none⟩ = some (.int .i64 k.src) := cell_to (by simp [go_sem]) hb1; have y1 : w1.cell? ⟨w.heap.size, 1, none⟩ = some (.int .i64 k.dst) := cell_to (by simp [go_sem]) hb1; have HB1 := hid (show Below w.heap.size w w1 from bel); clear hb1)
        | (go_at_call 110; refine (refAt_any c.pods _ (some ⟨b, off, none⟩) qa pc c.pols.length qc _ (rdPods.to HP.out HB1.out)).mono ?_; rw [hix]; rintro e w2 ⟨rfl, hb2⟩; have z0 := cell_to x0 hb2; have HB2 := hid (Ext.trans HB1.out hb2); have d0 := cell_to c0 HB2.out; clear hb2 x0 x1 y0 y1))
      go_ret2
      exact ⟨by rw [HD.out]; rfl, HB2.out⟩
set_option maxHeartbeats 2000000 in
theorem table_any (l L : List DRow) (a : Option Addr) (cap : Nat) (w : World) (hr : rdRows w.heap.size w a l) (hok : ∀ r ∈ l, rowOk r = true) (hL : l = L ++ [lastRow]) (hl : l.length ≤ 20000) :
    Calls Tryz.prog 80 #[.slice a l.length cap] w fun e w' => e = .returned (.bool true) ∧ Below w.heap.size w w' := by
  have HR := hid hr
  have HOK := hid hok
  have hpos : 0 < l.length := by rw [hL]; simp
  have hlast : l[l.length - 1]? = some lastRow := by rw [hL]; simp
  have HLA := hid hlast
  have q0 : ((l.length : Int) == 0) = false := beq_eq_false_iff_ne.2 (by omega)
  have q1 : ¬ (20000 : Int) < (l.length : Int) := by omega
  clear hr hok hL hlast
  go_enter Tryz.func80, Tryz.ntmps80
  go_wp2
  go_loopw [3] (fun i wr => ∃ n : Nat, n ≤ l.length ∧ i = .int .i64 n ∧ Below w.heap.size w wr) (fun i _ => l.length - (intOf i).toNat)
  case atStart => exact ⟨0, Nat.zero_le _, rfl, Below.refl _ _⟩
  case round =>
    obtain ⟨n, hn, rfl, hbr⟩ := hrel
    obtain ⟨wa, hwa⟩ : ∃ wa, wa = wr := ⟨_, rfl⟩
    subst hwa
    have HBR := hid hbr
    by_cases hlt : n < l.length
    · obtain ⟨r, hrn⟩ : ∃ r, l[n]? = some r := ⟨l[n], by simp [hlt]⟩
      have zn : (n : Int) < (l.length : Int) := by omega
      obtain ⟨b, off, rfl, hb, e0, e1, e2, e3, e4, e5, e6, e7⟩ := HR.out.2 n r hrn
      have c0 := cell_to e0 hbr
      have c1 := cell_to e1 hbr
      have c2 := cell_to e2 hbr
      have c3 := cell_to e3 hbr
      have c4 := cell_to e4 hbr
      have c5 := cell_to e5 hbr
      have c6 := cell_to e6 hbr
      have c7 := cell_to e7 hbr
      have HO := hid (HOK.out r (List.mem_of_getElem? hrn))
      clear hrn e0 e1 e2 e3 e4 e5 e6 e7 hbr
      go_wp2_with (go_at_call 111; go_must (refine (refRow_any r wa).mono ?_); rw [HO.out]; rintro e w1 ⟨rfl, hb1⟩; have HB1 := hid hb1; clear hb1)
      exact ⟨⟨n + 1, by omega, by go_num, Ext.trans HBR.out HB1.out⟩, by simp [intOf]; omega⟩
    · have zn : ¬ (n : Int) < (l.length : Int) := by omega
      obtain ⟨m, hm⟩ : ∃ m, l.length = m + 1 := ⟨l.length - 1, by omega⟩
      have hla := HLA.out
      rw [show l.length - 1 = m by omega] at hla
      obtain ⟨b, off, rfl, hb, e0, e1, e2, e3, e4, e5, e6, e7⟩ := HR.out.2 m lastRow hla
      have zm : (l.length : Int) - 1 = (m : Int) := by omega
      have zm1 : (m : Int) < (l.length : Int) := by omega
      have c0 : wa.cell? ⟨b, off + m * 8, none⟩ = some (.int .i64 0) := cell_to e0 hbr
      have c1 : wa.cell? ⟨b, off + m * 8 + 1, none⟩ = some (.int .i64 0) := cell_to e1 hbr
      have c2 : wa.cell? ⟨b, off + m * 8 + 2, none⟩ = some (.int .i64 0) := cell_to e2 hbr
      have c3 : wa.cell? ⟨b, off + m * 8 + 3, none⟩ = some (.int .i64 0) := cell_to e3 hbr
      have c4 : wa.cell? ⟨b, off + m * 8 + 4, none⟩ = some (.int .i64 0) := cell_to e4 hbr
      have c5 : wa.cell? ⟨b, off + m * 8 + 5, none⟩ = some (.int .i64 0) := cell_to e5 hbr
      have c6 : wa.cell? ⟨b, off + m * 8 + 6, none⟩ = some (.int .i64 65535) := cell_to e6 hbr
      have c7 : wa.cell? ⟨b, off + m * 8 + 7, none⟩ = some (.bool true) := cell_to e7 hbr
      clear e0 e1 e2 e3 e4 e5 e6 e7 hbr hla hm
      go_wp2
      go_ret
      exact ⟨rfl, Ext.trans HBR.out bel⟩
end Go.Proofs.YtmkjlhplgcifiaaGreat
