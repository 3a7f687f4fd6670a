/-
  palisaderef: Row and Fits of rows; palisadelaw: first, table.
-/
import Derived.Test.YtmkjlhplgcifiaaGreatH19
import Derived.Test.YtmkjlhplgcifiaaGreatH08
namespace Go.Proofs.YtmkjlhplgcifiaaGreat
open Go.ChangeShapes Go.WideShapes Go.ChangeAt Go.RowKit
set_option linter.unusedVariables false
set_option linter.unusedSimpArgs false
attribute [local simp] World.cell?_grow World.cell?_alloc_there
attribute [local go_sem] World.cell?_grow World.cell?_alloc_there eqg_blk std_blk eqg_pod std_pod eqg_sel std_sel eqg_prt std_prt eqg_row std_row
attribute [local go_sem ↓] eql_blk eql_sel neq_sel eql_prt eql_pod met_in1 met_in2 met_re1 met_re2 met_has1 met_has2 met_bl1 met_bl2 neq_row
set_option maxHeartbeats 1000000 in
theorem refRowFits_any (r : DRow) (k : DPkt) (w : World) (hr : rowOk r = true) (hk : pktOk k = true) :
    Calls Tryz.prog 112 #[.agg #[.int .i64 r.sb, .int .i64 r.sn, .int .i64 r.db, .int .i64 r.dn, .int .i64 r.proto, .int .i64 r.lo, .int .i64 r.hi, .bool r.allow], .agg #[.int .i64 k.src, .int .i64 k.dst, .int .i64 k.proto, .int .i64 k.port]] w fun e w' => e = .returned (.bool (rowFits k r)) ∧ Below w.heap.size w w' := by
  obtain ⟨r1, r2, r3⟩ := rowOk_true.1 hr
  obtain ⟨s0, s1, _⟩ := blkOk_true.1 r1
  obtain ⟨d0, d1, _⟩ := blkOk_true.1 r2
  have s0 : 0 ≤ r.sn := s0
  have s1 : r.sn ≤ 32 := s1
  have d0 : 0 ≤ r.dn := d0
  have d1 : r.dn ≤ 32 := d1
  simp only [pktOk, Bool.and_eq_true, btw, decide_eq_true_eq] at hk
  obtain ⟨⟨⟨⟨k0, k1⟩, ⟨k2, k3⟩⟩, _⟩, _⟩ := hk
  have HF := hid (show rowFits k r = (blkHas k.src ⟨r.sb, r.sn⟩ && blkHas k.dst ⟨r.db, r.dn⟩ && ((decide (r.proto = 0) || decide (r.proto = k.proto)) && (decide (r.lo ≤ k.port) && decide (k.port ≤ r.hi)))) from rfl)
  have R1 := hid r1
  have R2 := hid r2
  clear hr r1 r2 r3
  cases hq1 : blkHas k.src ⟨r.sb, r.sn⟩
  · rw [hq1] at HF
    go_enter Tryz.func112, Tryz.ntmps112
    go_wp2_with (first
        | (go_at_call 144; refine (refHas_any ⟨_, _⟩ _ _ ?_ ?_ ?_).mono ?_; exact R1.out; assumption; assumption; rintro e w1 ⟨rfl, hb1⟩; obtain ⟨hc1, hf1⟩ := bcell hb1; have hz1 := hb_lt hb1; have x2 : w1.cell? ⟨w.heap.size, 2, none⟩ = some (.int .i64 r.db) := cell_to (by simp [go_sem]) hb1; have x3 : w1.cell? ⟨w.heap.size, 3, none⟩ = some (.int .i64 r.dn) := cell_to (by simp [go_sem]) hb1; have x4 : w1.cell? ⟨w.heap.size, 4, none⟩ = some (.int .i64 r.proto) := cell_to (by simp [go_sem]) hb1; have x5 : w1.cell? ⟨w.heap.size, 5, none⟩ = some (.int .i64 r.lo) := cell_to (by simp [go_sem]) hb1; have x6 : w1.cell? ⟨w.heap.size, 6, none⟩ = some (.int .i64 r.hi) := cell_to (by simp [go_sem]) hb1; have y1 : w1.cell? ⟨w.heap.size + 1, 1, none⟩ = some (.int .i64 k.dst) := cell_to (by simp [go_sem]) hb1; have y2 : w1.cell? ⟨w.heap.size + 1, 2, none⟩ = some (.int .i64 k.proto) := cell_to (by simp [go_sem]) hb1; have y3 : w1.cell? ⟨w.heap.size + 1, 3, none⟩ = some (.int .i64 k.port) := cell_to (by simp [go_sem]) hb1; clear hc1)
        | (go_at_call 144; refine (refHas_any ⟨_, _⟩ _ _ ?_ ?_ ?_).mono ?_; exact R2.out; assumption; assumption; rintro e w2 ⟨rfl, hb2⟩; obtain ⟨hc2, hf2⟩ := bcell hb2; have hz2 := hb_lt hb2; have x2' := cell_to x2 hb2; have x3' := cell_to x3 hb2; have x4' := cell_to x4 hb2; have x5' := cell_to x5 hb2; have x6' := cell_to x6 hb2; have y1' := cell_to y1 hb2; have y2' := cell_to y2 hb2; have y3' := cell_to y3 hb2; clear hc2))
    go_ret
    exact ⟨ret_bool (by rw [HF.out]; simp), bel⟩
  cases hq2 : blkHas k.dst ⟨r.db, r.dn⟩
  · rw [hq1, hq2] at HF
    go_enter Tryz.func112, Tryz.ntmps112
    go_wp2_with (first
        | (go_at_call 144; refine (refHas_any ⟨_, _⟩ _ _ ?_ ?_ ?_).mono ?_; exact R1.out; assumption; assumption; rintro e w1 ⟨rfl, hb1⟩; obtain ⟨hc1, hf1⟩ := bcell hb1; have hz1 := hb_lt hb1; have x2 : w1.cell? ⟨w.heap.size, 2, none⟩ = some (.int .i64 r.db) := cell_to (by simp [go_sem]) hb1; have x3 : w1.cell? ⟨w.heap.size, 3, none⟩ = some (.int .i64 r.dn) := cell_to (by simp [go_sem]) hb1; have x4 : w1.cell? ⟨w.heap.size, 4, none⟩ = some (.int .i64 r.proto) := cell_to (by simp [go_sem]) hb1; have x5 : w1.cell? ⟨w.heap.size, 5, none⟩ = some (.int .i64 r.lo) := cell_to (by simp [go_sem]) hb1; have x6 : w1.cell? ⟨w.heap.size, 6, none⟩ = some (.int .i64 r.hi) := cell_to (by simp [go_sem]) hb1; have y1 : w1.cell? ⟨w.heap.size + 1, 1, none⟩ = some (.int .i64 k.dst) := cell_to (by simp [go_sem]) hb1; have y2 : w1.cell? ⟨w.heap.size + 1, 2, none⟩ = some (.int .i64 k.proto) := cell_to (by simp [go_sem]) hb1; have y3 : w1.cell? ⟨w.heap.size + 1, 3, none⟩ = some (.int .i64 k.port) := cell_to (by simp [go_sem]) hb1; clear hc1)
        | (go_at_call 144; refine (refHas_any ⟨_, _⟩ _ _ ?_ ?_ ?_).mono ?_; exact R2.out; assumption; assumption; rintro e w2 ⟨rfl, hb2⟩; obtain ⟨hc2, hf2⟩ := bcell hb2; have hz2 := hb_lt hb2; have x2' := cell_to x2 hb2; have x3' := cell_to x3 hb2; have x4' := cell_to x4 hb2; have x5' := cell_to x5 hb2; have x6' := cell_to x6 hb2; have y1' := cell_to y1 hb2; have y2' := cell_to y2 hb2; have y3' := cell_to y3 hb2; clear hc2))
    go_ret
    exact ⟨ret_bool (by rw [HF.out]; simp), bel⟩
  cases hq3 : (r.proto == 0)
  · cases hq4 : (r.proto == k.proto)
    · rw [hq1, hq2, ← ibeq, ← ibeq, hq3, hq4] at HF
      go_enter Tryz.func112, Tryz.ntmps112
      go_wp2_with (first
        | (go_at_call 144; refine (refHas_any ⟨_, _⟩ _ _ ?_ ?_ ?_).mono ?_; exact R1.out; assumption; assumption; rintro e w1 ⟨rfl, hb1⟩; obtain ⟨hc1, hf1⟩ := bcell hb1; have hz1 := hb_lt hb1; have x2 : w1.cell? ⟨w.heap.size, 2, none⟩ = some (.int .i64 r.db) := cell_to (by simp [go_sem]) hb1; have x3 : w1.cell? ⟨w.heap.size, 3, none⟩ = some (.int .i64 r.dn) := cell_to (by simp [go_sem]) hb1; have x4 : w1.cell? ⟨w.heap.size, 4, none⟩ = some (.int .i64 r.proto) := cell_to (by simp [go_sem]) hb1; have x5 : w1.cell? ⟨w.heap.size, 5, none⟩ = some (.int .i64 r.lo) := cell_to (by simp [go_sem]) hb1; have x6 : w1.cell? ⟨w.heap.size, 6, none⟩ = some (.int .i64 r.hi) := cell_to (by simp [go_sem]) hb1; have y1 : w1.cell? ⟨w.heap.size + 1, 1, none⟩ = some (.int .i64 k.dst) := cell_to (by simp [go_sem]) hb1; have y2 : w1.cell? ⟨w.heap.size + 1, 2, none⟩ = some (.int .i64 k.proto) := cell_to (by simp [go_sem]) hb1; have y3 : w1.cell? ⟨w.heap.size + 1, 3, none⟩ = some (.int .i64 k.port) := cell_to (by simp [go_sem]) hb1; clear hc1)
        | (go_at_call 144; refine (refHas_any ⟨_, _⟩ _ _ ?_ ?_ ?_).mono ?_; exact R2.out; assumption; assumption; rintro e w2 ⟨rfl, hb2⟩; obtain ⟨hc2, hf2⟩ := bcell hb2; have hz2 := hb_lt hb2; have x2' := cell_to x2 hb2; have x3' := cell_to x3 hb2; have x4' := cell_to x4 hb2; have x5' := cell_to x5 hb2; have x6' := cell_to x6 hb2; have y1' := cell_to y1 hb2; have y2' := cell_to y2 hb2; have y3' := cell_to y3 hb2; clear hc2))
      go_ret
      exact ⟨ret_bool (by rw [HF.out]; simp), bel⟩
    · rw [hq1, hq2, ← ibeq, ← ibeq, hq3, hq4] at HF
      by_cases hq5 : r.lo ≤ k.port
      · go_enter Tryz.func112, Tryz.ntmps112
        go_wp2_with (first
        | (go_at_call 144; refine (refHas_any ⟨_, _⟩ _ _ ?_ ?_ ?_).mono ?_; exact R1.out; assumption; assumption; rintro e w1 ⟨rfl, hb1⟩; obtain ⟨hc1, hf1⟩ := bcell hb1; have hz1 := hb_lt hb1; have x2 : w1.cell? ⟨w.heap.size, 2, none⟩ = some (.int .i64 r.db) := cell_to (by simp [go_sem]) hb1; have x3 : w1.cell? ⟨w.heap.size, 3, none⟩ = some (.int .i64 r.dn) := cell_to (by simp [go_sem]) hb1; have x4 : w1.cell? ⟨w.heap.size, 4, none⟩ = some (.int .i64 r.proto) := cell_to (by simp [go_sem]) hb1; have x5 : w1.cell? ⟨w.heap.size, 5, none⟩ = some (.int .i64 r.lo) := cell_to (by simp [go_sem]) hb1; have x6 : w1.cell? ⟨w.heap.size, 6, none⟩ = some (.int .i64 r.hi) := cell_to (by simp [go_sem]) hb1; have y1 : w1.cell? ⟨w.heap.size + 1, 1, none⟩ = some (.int .i64 k.dst) := cell_to (by simp [go_sem]) hb1; have y2 : w1.cell? ⟨w.heap.size + 1, 2, none⟩ = some (.int .i64 k.proto) := cell_to (by simp [go_sem]) hb1; have y3 : w1.cell? ⟨w.heap.size + 1, 3, none⟩ = some (.int .i64 k.port) := cell_to (by simp [go_sem]) hb1; clear hc1)
        | (go_at_call 144; refine (refHas_any ⟨_, _⟩ _ _ ?_ ?_ ?_).mono ?_; exact R2.out; assumption; assumption; rintro e w2 ⟨rfl, hb2⟩; obtain ⟨hc2, hf2⟩ := bcell hb2; have hz2 := hb_lt hb2; have x2' := cell_to x2 hb2; have x3' := cell_to x3 hb2; have x4' := cell_to x4 hb2; have x5' := cell_to x5 hb2; have x6' := cell_to x6 hb2; have y1' := cell_to y1 hb2; have y2' := cell_to y2 hb2; have y3' := cell_to y3 hb2; clear hc2))
        go_ret
        exact ⟨ret_bool (by rw [HF.out]; first | (simp [hq5]; done) | (simp [hq5]; omega) | (simp [*]; done)), bel⟩
      · go_enter Tryz.func112, Tryz.ntmps112
        go_wp2_with (first
        | (go_at_call 144; refine (refHas_any ⟨_, _⟩ _ _ ?_ ?_ ?_).mono ?_; exact R1.out; assumption; assumption; rintro e w1 ⟨rfl, hb1⟩; obtain ⟨hc1, hf1⟩ := bcell hb1; have hz1 := hb_lt hb1; have x2 : w1.cell? ⟨w.heap.size, 2, none⟩ = some (.int .i64 r.db) := cell_to (by simp [go_sem]) hb1; have x3 : w1.cell? ⟨w.heap.size, 3, none⟩ = some (.int .i64 r.dn) := cell_to (by simp [go_sem]) hb1; have x4 : w1.cell? ⟨w.heap.size, 4, none⟩ = some (.int .i64 r.proto) := cell_to (by simp [go_sem]) hb1; have x5 : w1.cell? ⟨w.heap.size, 5, none⟩ = some (.int .i64 r.lo) := cell_to (by simp [go_sem]) hb1; have x6 : w1.cell? ⟨w.heap.size, 6, none⟩ = some (.int .i64 r.hi) := cell_to (by simp [go_sem]) hb1; have y1 : w1.cell? ⟨w.heap.size + 1, 1, none⟩ = some (.int .i64 k.dst) := cell_to (by simp [go_sem]) hb1; have y2 : w1.cell? ⟨w.heap.size + 1, 2, none⟩ = some (.int .i64 k.proto) := cell_to (by simp [go_sem]) hb1; have y3 : w1.cell? ⟨w.heap.size + 1, 3, none⟩ = some (.int .i64 k.port) := cell_to (by simp [go_sem]) hb1; clear hc1)
        | (go_at_call 144; refine (refHas_any ⟨_, _⟩ _ _ ?_ ?_ ?_).mono ?_; exact R2.out; assumption; assumption; rintro e w2 ⟨rfl, hb2⟩; obtain ⟨hc2, hf2⟩ := bcell hb2; have hz2 := hb_lt hb2; have x2' := cell_to x2 hb2; have x3' := cell_to x3 hb2; have x4' := cell_to x4 hb2; have x5' := cell_to x5 hb2; have x6' := cell_to x6 hb2; have y1' := cell_to y1 hb2; have y2' := cell_to y2 hb2; have y3' := cell_to y3 hb2; clear hc2))
        go_ret
        exact ⟨ret_bool (by rw [HF.out]; first | (simp [hq5]; done) | (simp [hq5]; omega) | (simp [*]; done)), bel⟩
  · rw [hq1, hq2, ← ibeq, hq3] at HF
    by_cases hq5 : r.lo ≤ k.port
    · go_enter Tryz.func112, Tryz.ntmps112
      go_wp2_with (first
        | (go_at_call 144; refine (refHas_any ⟨_, _⟩ _ _ ?_ ?_ ?_).mono ?_; exact R1.out; assumption; assumption; rintro e w1 ⟨rfl, hb1⟩; obtain ⟨hc1, hf1⟩ := bcell hb1; have hz1 := hb_lt hb1; have x2 : w1.cell? ⟨w.heap.size, 2, none⟩ = some (.int .i64 r.db) := cell_to (by simp [go_sem]) hb1; have x3 : w1.cell? ⟨w.heap.size, 3, none⟩ = some (.int .i64 r.dn) := cell_to (by simp [go_sem]) hb1; have x4 : w1.cell? ⟨w.heap.size, 4, none⟩ = some (.int .i64 r.proto) := cell_to (by simp [go_sem]) hb1; have x5 : w1.cell? ⟨w.heap.size, 5, none⟩ = some (.int .i64 r.lo) := cell_to (by simp [go_sem]) hb1; have x6 : w1.cell? ⟨w.heap.size, 6, none⟩ = some (.int .i64 r.hi) := cell_to (by simp [go_sem]) hb1; have y1 : w1.cell? ⟨w.heap.size + 1, 1, none⟩ = some (.int .i64 k.dst) := cell_to (by simp [go_sem]) hb1; have y2 : w1.cell? ⟨w.heap.size + 1, 2, none⟩ = some (.int .i64 k.proto) := cell_to (by simp [go_sem]) hb1; have y3 : w1.cell? ⟨w.heap.size + 1, 3, none⟩ = some (.int .i64 k.port) := cell_to (by simp [go_sem]) hb1; clear hc1)
        | (go_at_call 144; refine (refHas_any ⟨_, _⟩ _ _ ?_ ?_ ?_).mono ?_; exact R2.out; assumption; assumption; rintro e w2 ⟨rfl, hb2⟩; obtain ⟨hc2, hf2⟩ := bcell hb2; have hz2 := hb_lt hb2; have x2' := cell_to x2 hb2; have x3' := cell_to x3 hb2; have x4' := cell_to x4 hb2; have x5' := cell_to x5 hb2; have x6' := cell_to x6 hb2; have y1' := cell_to y1 hb2; have y2' := cell_to y2 hb2; have y3' := cell_to y3 hb2; clear hc2))
      go_ret
      exact ⟨ret_bool (by rw [HF.out]; first | (simp [hq5]; done) | (simp [hq5]; omega) | (simp [*]; done)), bel⟩
    · go_enter Tryz.func112, Tryz.ntmps112
      go_wp2_with (first
        | (go_at_call 144; refine (refHas_any ⟨_, _⟩ _ _ ?_ ?_ ?_).mono ?_; exact R1.out; assumption; assumption; rintro e w1 ⟨rfl, hb1⟩; obtain ⟨hc1, hf1⟩ := bcell hb1; have hz1 := hb_lt hb1; have x2 : w1.cell? ⟨w.heap.size, 2, none⟩ = some (.int .i64 r.db) := cell_to (by simp [go_sem]) hb1; have x3 : w1.cell? ⟨w.heap.size, 3, none⟩ = some (.int .i64 r.dn) := cell_to (by simp [go_sem]) hb1; have x4 : w1.cell? ⟨w.heap.size, 4, none⟩ = some (.int .i64 r.proto) := cell_to (by simp [go_sem]) hb1; have x5 : w1.cell? ⟨w.heap.size, 5, none⟩ = some (.int .i64 r.lo) := cell_to (by simp [go_sem]) hb1; have x6 : w1.cell? ⟨w.heap.size, 6, none⟩ = some (.int .i64 r.hi) := cell_to (by simp [go_sem]) hb1; have y1 : w1.cell? ⟨w.heap.size + 1, 1, none⟩ = some (.int .i64 k.dst) := cell_to (by simp [go_sem]) hb1; have y2 : w1.cell? ⟨w.heap.size + 1, 2, none⟩ = some (.int .i64 k.proto) := cell_to (by simp [go_sem]) hb1; have y3 : w1.cell? ⟨w.heap.size + 1, 3, none⟩ = some (.int .i64 k.port) := cell_to (by simp [go_sem]) hb1; clear hc1)
        | (go_at_call 144; refine (refHas_any ⟨_, _⟩ _ _ ?_ ?_ ?_).mono ?_; exact R2.out; assumption; assumption; rintro e w2 ⟨rfl, hb2⟩; obtain ⟨hc2, hf2⟩ := bcell hb2; have hz2 := hb_lt hb2; have x2' := cell_to x2 hb2; have x3' := cell_to x3 hb2; have x4' := cell_to x4 hb2; have x5' := cell_to x5 hb2; have x6' := cell_to x6 hb2; have y1' := cell_to y1 hb2; have y2' := cell_to y2 hb2; have y3' := cell_to y3 hb2; clear hc2))
      go_ret
      exact ⟨ret_bool (by rw [HF.out]; first | (simp [hq5]; done) | (simp [hq5]; omega) | (simp [*]; done)), bel⟩
set_option maxHeartbeats 1000000 in
theorem refRow_any (r : DRow) (w : World) :
    Calls Tryz.prog 111 #[.agg #[.int .i64 r.sb, .int .i64 r.sn, .int .i64 r.db, .int .i64 r.dn, .int .i64 r.proto, .int .i64 r.lo, .int .i64 r.hi, .bool r.allow]] w fun e w' => e = .returned (.bool (rowOk r)) ∧ Below w.heap.size w w' := by
  have HF := hid (show rowOk r = (blkOk ⟨r.sb, r.sn⟩ && blkOk ⟨r.db, r.dn⟩ && prtOk ⟨r.proto, r.lo, r.hi⟩) from rfl)
  have hc1 := refBlk_any ⟨r.sb, r.sn⟩
  have hc2 := refBlk_any ⟨r.db, r.dn⟩
  have hc3 := refPort_any ⟨r.proto, r.lo, r.hi⟩
  generalize blkOk ⟨r.sb, r.sn⟩ = x at *
  generalize blkOk ⟨r.db, r.dn⟩ = y at *
  generalize prtOk ⟨r.proto, r.lo, r.hi⟩ = z at *
  have C1 := hid hc1
  have C2 := hid hc2
  have C3 := hid hc3
  clear hc1 hc2 hc3
  go_enter Tryz.func111, Tryz.ntmps111
  go_wp2_with fail
  have s2 : (w.alloc (.cells #[.int .i64 r.sb, .int .i64 r.sn, .int .i64 r.db, .int .i64 r.dn, .int .i64 r.proto, .int .i64 r.lo, .int .i64 r.hi, .bool r.allow] 49)).cell? ⟨w.heap.size, 2, none⟩ = some (.int .i64 r.db) := by simp [go_sem]
  have s3 : (w.alloc (.cells #[.int .i64 r.sb, .int .i64 r.sn, .int .i64 r.db, .int .i64 r.dn, .int .i64 r.proto, .int .i64 r.lo, .int .i64 r.hi, .bool r.allow] 49)).cell? ⟨w.heap.size, 3, none⟩ = some (.int .i64 r.dn) := by simp [go_sem]
  have s4 : (w.alloc (.cells #[.int .i64 r.sb, .int .i64 r.sn, .int .i64 r.db, .int .i64 r.dn, .int .i64 r.proto, .int .i64 r.lo, .int .i64 r.hi, .bool r.allow] 49)).cell? ⟨w.heap.size, 4, none⟩ = some (.int .i64 r.proto) := by simp [go_sem]
  have s5 : (w.alloc (.cells #[.int .i64 r.sb, .int .i64 r.sn, .int .i64 r.db, .int .i64 r.dn, .int .i64 r.proto, .int .i64 r.lo, .int .i64 r.hi, .bool r.allow] 49)).cell? ⟨w.heap.size, 5, none⟩ = some (.int .i64 r.lo) := by simp [go_sem]
  have s6 : (w.alloc (.cells #[.int .i64 r.sb, .int .i64 r.sn, .int .i64 r.db, .int .i64 r.dn, .int .i64 r.proto, .int .i64 r.lo, .int .i64 r.hi, .bool r.allow] 49)).cell? ⟨w.heap.size, 6, none⟩ = some (.int .i64 r.hi) := by simp [go_sem]
  have hb0 : Below w.heap.size w (w.alloc (.cells #[.int .i64 r.sb, .int .i64 r.sn, .int .i64 r.db, .int .i64 r.dn, .int .i64 r.proto, .int .i64 r.lo, .int .i64 r.hi, .bool r.allow] 49)) := bel
  generalize w.alloc (.cells #[.int .i64 r.sb, .int .i64 r.sn, .int .i64 r.db, .int .i64 r.dn, .int .i64 r.proto, .int .i64 r.lo, .int .i64 r.hi, .bool r.allow] 49) = W at s2 s3 s4 s5 s6 hb0 ⊢
  refine (C1.out W).mono ?_
  rintro e w1 ⟨rfl, hb1⟩
  have t2 := cell_to s2 hb1
  have t3 := cell_to s3 hb1
  have t4 := cell_to s4 hb1
  have t5 := cell_to s5 hb1
  have t6 := cell_to s6 hb1
  have HB1 := hid (Ext.trans hb0 hb1)
  clear s2 s3 s4 s5 s6 hb0 hb1
  go_wp2_with fail
  refine (C2.out w1).mono ?_
  rintro e w2 ⟨rfl, hb2⟩
  have s4 := cell_to t4 hb2
  have s5 := cell_to t5 hb2
  have s6 := cell_to t6 hb2
  have HB2 := hid (Ext.trans HB1.out hb2)
  clear t2 t3 t4 t5 t6 hb2
  go_wp2_with fail
  refine (C3.out w2).mono ?_
  rintro e w3 ⟨rfl, hb3⟩
  have HB3 := hid (Ext.trans HB2.out hb3)
  clear s4 s5 s6 hb3
  cases x <;> cases y <;> cases z <;> (go_wp2; go_ret; exact ⟨ret_bool (by rw [HF.out]; rfl), HB3.out⟩)
def fstOf (k : DPkt) (l : List DRow) : Int := match l.findIdx? (rowFits k) with | some n => n | none => -1
theorem fst_at {k : DPkt} {l : List DRow} {n : Nat} {r : DRow} (h : l[n]? = some r) (hb : ∀ j y, j < n → l[j]? = some y → rowFits k y = false) (hr : rowFits k r = true) : fstOf k l = n := by
  have : l.findIdx? (rowFits k) = some n := by
    obtain ⟨hn, rfl⟩ := List.getElem?_eq_some_iff.1 h
    rw [List.findIdx?_eq_some_iff_getElem]
    refine ⟨hn, hr, fun j hj => ?_⟩
    simp [hb j _ hj (List.getElem?_eq_getElem (by omega))]
  rw [fstOf, this]
theorem fst_none {k : DPkt} {l : List DRow} (hb : ∀ j y, j < l.length → l[j]? = some y → rowFits k y = false) : fstOf k l = -1 := by
  have : l.findIdx? (rowFits k) = none := by
    rw [List.findIdx?_eq_none_iff]
    intro x hx
    obtain ⟨j, hj, rfl⟩ := List.getElem_of_mem hx
    exact hb j _ hj (List.getElem?_eq_getElem hj)
  rw [fstOf, this]
set_option maxHeartbeats 2000000 in
theorem first_any (l : List DRow) (k : DPkt) (a : Option Addr) (cap : Nat) (w : World) (hr : rdRows w.heap.size w a l) (hok : ∀ r ∈ l, rowOk r = true) (hk : pktOk k = true) :
    Calls Tryz.prog 81 #[.slice a l.length cap, .agg #[.int .i64 k.src, .int .i64 k.dst, .int .i64 k.proto, .int .i64 k.port]] w fun e w' => e = .returned (.int .i64 (fstOf k l)) ∧ Below w.heap.size w w' := by
  have HR := hid hr
  have HOK := hid hok
  have HK := hid hk
  have hlen := hr.1
  clear hr hok hk
  go_enter Tryz.func81, Tryz.ntmps81
  go_wp2
  go_loopw [5] (fun i wr => ∃ n : Nat, n ≤ l.length ∧ i = .int .i64 n ∧ (∀ j y, j < n → l[j]? = some y → rowFits k y = false) ∧ Below (w.alloc (.cells #[.int .i64 k.src, .int .i64 k.dst, .int .i64 k.proto, .int .i64 k.port] 30)).heap.size (w.alloc (.cells #[.int .i64 k.src, .int .i64 k.dst, .int .i64 k.proto, .int .i64 k.port] 30)) wr) (fun i _ => l.length - (intOf i).toNat)
  case atStart => exact ⟨0, Nat.zero_le _, rfl, fun j y hj => absurd hj (Nat.not_lt_zero _), Below.refl _ _⟩
  case round =>
    obtain ⟨n, hn, rfl, hall, hbr⟩ := hrel
    obtain ⟨wa, hwa⟩ : ∃ wa, wa = wr := ⟨_, rfl⟩
    subst hwa
    have HA := hid hall
    have p0 : wa.cell? ⟨w.heap.size, 0, none⟩ = some (.int .i64 k.src) := cell_to (by simp [go_sem]) hbr
    have p1 : wa.cell? ⟨w.heap.size, 1, none⟩ = some (.int .i64 k.dst) := cell_to (by simp [go_sem]) hbr
    have p2 : wa.cell? ⟨w.heap.size, 2, none⟩ = some (.int .i64 k.proto) := cell_to (by simp [go_sem]) hbr
    have p3 : wa.cell? ⟨w.heap.size, 3, none⟩ = some (.int .i64 k.port) := cell_to (by simp [go_sem]) hbr
    have hbw : Below w.heap.size w wa := Ext.trans (show Below w.heap.size w (w.alloc (.cells #[.int .i64 k.src, .int .i64 k.dst, .int .i64 k.proto, .int .i64 k.port] 30)) from bel) hbr
    have HBR := hid hbr
    have HBW := hid hbw
    clear hall hbr
    by_cases hlt : n < l.length
    · obtain ⟨r, hrn⟩ : ∃ r, l[n]? = some r := ⟨l[n], by simp [hlt]⟩
      have HX := hid hrn
      have zn : (n : Int) < (l.length : Int) := by omega
      obtain ⟨b, off, rfl, hb, e0, e1, e2, e3, e4, e5, e6, e7⟩ := HR.out.2 n r hrn
      have c0 := cell_to e0 hbw
      have c1 := cell_to e1 hbw
      have c2 := cell_to e2 hbw
      have c3 := cell_to e3 hbw
      have c4 := cell_to e4 hbw
      have c5 := cell_to e5 hbw
      have c6 := cell_to e6 hbw
      have c7 := cell_to e7 hbw
      have HO := hid (HOK.out r (List.mem_of_getElem? hrn))
      have HF := hid (refRowFits_any r k)
      have hbR := HBR.out
      clear hrn e0 e1 e2 e3 e4 e5 e6 e7 hbw
      cases hf : rowFits k r
      · go_wp2
        refine wp_region_grow (by kernel_rfl) (by kernel_rfl) ?_
        repeat (go_big_quiet_step (first
          | (go_at_call 112; exact Calls.grow_bool hf (HF.out _ HO.out HK.out))))
        refine wpQuiet_nil ?_
        intro w1 hb1
        obtain ⟨hc1, hf1⟩ := bcell hb1
        have hz1 := hb_lt hb1
        go_wp2
        refine ⟨⟨n + 1, by omega, by go_num, fun j y hj hy => ?_, bel⟩, by simp [intOf]; omega⟩
        rcases Nat.lt_succ_iff_lt_or_eq.1 hj with h | h
        · exact HA.out j y h hy
        · subst h
          rw [HX.out] at hy
          cases hy
          exact hf
      · have HFS := hid (fst_at HX.out HA.out hf)
        go_wp2
        refine wp_region_grow (by kernel_rfl) (by kernel_rfl) ?_
        repeat (go_big_quiet_step (first
          | (go_at_call 112; exact Calls.grow_bool hf (HF.out _ HO.out HK.out))))
        refine wpQuiet_nil ?_
        intro w1 hb1
        obtain ⟨hc1, hf1⟩ := bcell hb1
        have hz1 := hb_lt hb1
        go_wp2
        go_ret
        exact ⟨by rw [HFS.out]; rfl, HBW.out.trans (hb1.mono HBW.out.size)⟩
    · have zn : ¬ (n : Int) < (l.length : Int) := by omega
      have HFS := hid (fst_none (k := k) (l := l) (fun j y hj => HA.out j y (by omega)))
      go_wp2
      go_ret
      exact ⟨by rw [HFS.out]; rfl, HBW.out⟩
end Go.Proofs.YtmkjlhplgcifiaaGreat
namespace Go.Proofs.YtmkjlhplgcifiaaGreat
open Go.ChangeShapes Go.WideShapes Go.ChangeAt Go.RowKit
set_option linter.unusedVariables false
set_option linter.unusedSimpArgs false
attribute [local simp] World.cell?_grow World.cell?_alloc_there
attribute [local go_sem] World.cell?_grow World.cell?_alloc_there eqg_blk std_blk eqg_pod std_pod eqg_sel std_sel eqg_prt std_prt
attribute [local go_sem ↓] eql_blk eql_sel neq_sel eql_prt eql_pod met_in1 met_in2 met_re1 met_re2 met_has1 met_has2
theorem half_pow (s : Int) (t : Nat) : s / 2 ^ t / 2 = s / 2 ^ (t + 1) := by
  rw [Int.pow_succ, Int.ediv_ediv_of_nonneg (Int.le_of_lt (Int.pow_pos (by omega)))]
theorem peerHas_at {pods : List DPod} {space ip : Int} {x : DPeer} {p : DPod} (hk : ¬ x.kind = 2) (hp : podAt pods ip = some p) : peerHas pods space ip x = (sels x.need x.ban p.labels && (if x.spaces = 0 then decide (p.space = space) else x.spaces / 2 ^ p.space.toNat % 2 == 1)) := by
  rw [peerHas, if_neg hk, hp]
theorem peerHas_no {pods : List DPod} {space ip : Int} {x : DPeer} (hk : ¬ x.kind = 2) (hp : podAt pods ip = none) : peerHas pods space ip x = false := by
  rw [peerHas, if_neg hk, hp]
set_option maxRecDepth 100000 in
set_option maxHeartbeats 8000000 in
theorem refHasPods (x : DPeer) (ea : Option Addr) (en ec : Nat) (ip space : Int) (pods : List DPod) (pa qa : Option Addr) (pc qn qc : Nat) (w : World) (hp : rdPods w.heap.size w pa pods) (ho : podsOk pods)
    (hk : ¬ x.kind = 2) (hs : selOk x.need x.ban = true) (hs0 : 0 ≤ x.spaces) (hs1 : x.spaces ≤ 15) :
    Calls Tryz.prog 167 #[.agg #[.slice pa pods.length pc, .slice qa qn qc], .int .i64 space, .agg #[.int .i64 x.kind, .int .i64 x.need, .int .i64 x.ban, .int .i64 x.spaces, .int .i64 x.base, .int .i64 x.bits, .slice ea en ec], .int .i64 ip] w
      fun e w' => e = .returned (.bool (peerHas pods space ip x)) ∧ Below w.heap.size w w' := by
  have HP := hid hp
  have HK := hid hk
  have hk2 : (x.kind == 2) = false := by simp [hk]
  have hlen := hp.1
  obtain ⟨⟨n0, n1⟩, b0, b1⟩ := selOk_true.1 hs
  cases hpa : podAt pods ip with
  | none =>
    have HF := hid (peerHas_no (space := space) hk hpa)
    have HI := hid (podAt_ixn hpa)
    clear hp hk hs hpa ho
    go_enter Tryz.func167, Tryz.ntmps167
    go_wp2_with (go_at_call 110; refine (refAt_any pods ip _ _ _ _ _ _ (rdPods.to HP.out bel)).mono ?_; rw [HI.out]; rintro e w2 ⟨rfl, hb2⟩; obtain ⟨hc2, hf2⟩ := bcell hb2; have hz2 := hb_lt hb2)
    go_ret
    exact ⟨ret_bool (by rw [HF.out]), bel⟩
  | some p =>
    obtain ⟨k, hk3, hix⟩ := podAt_ix hpa
    have HI := hid hix
    have HG := hid (peerHas_at (space := space) hk hpa)
    obtain ⟨_, _, ⟨s0, s1⟩, l0, l1⟩ := podOk_true.1 (ho.1 p (List.mem_of_getElem? hk3))
    have hkl : k < pods.length := (List.getElem?_eq_some_iff.1 hk3).1
    have HX := hid hk3
    obtain ⟨b, off, he, hb, c0, c1, c2, c3⟩ := hp.2 k p hk3
    subst he
    clear hp hk hs hpa ho hk3 hix
    have main : ∀ w2 : World, Below ((w.alloc (Obj.cells #[.slice (some ⟨b, off, none⟩) pods.length pc, .slice qa qn qc] 28)).alloc (Obj.cells #[.int .i64 x.kind, .int .i64 x.need, .int .i64 x.ban, .int .i64 x.spaces, .int .i64 x.base, .int .i64 x.bits, .slice ea en ec] 69)).heap.size ((w.alloc (Obj.cells #[.slice (some ⟨b, off, none⟩) pods.length pc, .slice qa qn qc] 28)).alloc (Obj.cells #[.int .i64 x.kind, .int .i64 x.need, .int .i64 x.ban, .int .i64 x.spaces, .int .i64 x.base, .int .i64 x.bits, .slice ea en ec] 69)) w2 →
        (w2.cell? ⟨w.heap.size, 0, none⟩ = some (.slice (some ⟨b, off, none⟩) pods.length pc) ∧ w2.cell? ⟨w.heap.size + 1, 1, none⟩ = some (.int .i64 x.need) ∧ w2.cell? ⟨w.heap.size + 1, 2, none⟩ = some (.int .i64 x.ban) ∧ w2.cell? ⟨w.heap.size + 1, 3, none⟩ = some (.int .i64 x.spaces)) ∧ Below w.heap.size w w2 := fun w2 h => ⟨⟨cell_to (by simp [go_sem]) h, cell_to (by simp [go_sem]) h, cell_to (by simp [go_sem]) h, cell_to (by simp [go_sem]) h⟩, bel⟩
    have HM := hid main
    clear main
    by_cases hz : x.spaces = 0
    · have hz2 : (x.spaces == 0) = true := by simp [hz]
      cases hq : sels x.need x.ban p.labels
      · have HF := hid (show peerHas pods space ip x = false by rw [HG.out, hq]; rfl)
        clear hz
        go_enter Tryz.func167, Tryz.ntmps167
        go_wp2_with (go_at_call 110; refine (refAt_any pods ip _ _ _ _ _ _ (rdPods.to HP.out bel)).mono ?_; rw [HI.out]; rintro e w2 ⟨rfl, hb2⟩; obtain ⟨hc2, hf2⟩ := bcell hb2; have hz2 := hb_lt hb2; obtain ⟨⟨y0, y1, y2, y3⟩, hB⟩ := HM.out _ hb2; have d2 := cell_to c2 hB; have d3 := cell_to c3 hB; clear hc2 hf2 hz2)
        refine wp_region_grow (by kernel_rfl) (by kernel_rfl) ?_
        repeat (go_big_quiet_step (first
          | (go_at_call 139; exact Calls.grow_bool hq (refSelects_any _ _ _ _ n0 n1 b0 b1 l0 l1))))
        refine wpQuiet_nil ?_
        intro w1 hb1
        obtain ⟨hc1, hf1⟩ := bcell hb1
        have hz1 := hb_lt hb1
        have v0 := cell_to y0 hb1
        have v3 := cell_to y3 hb1
        have u2 := cell_to d2 hb1
        clear hc1 hf1 hz1
        go_wp2
        go_ret
        exact ⟨ret_bool (by rw [HF.out]), Ext.trans hB hb1⟩
      · have HF := hid (show peerHas pods space ip x = (p.space == space) by rw [HG.out, hq, if_pos hz, ibeq]; rfl)
        clear hz
        go_enter Tryz.func167, Tryz.ntmps167
        go_wp2_with (go_at_call 110; refine (refAt_any pods ip _ _ _ _ _ _ (rdPods.to HP.out bel)).mono ?_; rw [HI.out]; rintro e w2 ⟨rfl, hb2⟩; obtain ⟨hc2, hf2⟩ := bcell hb2; have hz2 := hb_lt hb2; obtain ⟨⟨y0, y1, y2, y3⟩, hB⟩ := HM.out _ hb2; have d2 := cell_to c2 hB; have d3 := cell_to c3 hB; clear hc2 hf2 hz2)
        refine wp_region_grow (by kernel_rfl) (by kernel_rfl) ?_
        repeat (go_big_quiet_step (first
          | (go_at_call 139; exact Calls.grow_bool hq (refSelects_any _ _ _ _ n0 n1 b0 b1 l0 l1))))
        refine wpQuiet_nil ?_
        intro w1 hb1
        obtain ⟨hc1, hf1⟩ := bcell hb1
        have hz1 := hb_lt hb1
        have v0 := cell_to y0 hb1
        have v3 := cell_to y3 hb1
        have u2 := cell_to d2 hb1
        clear hc1 hf1 hz1
        go_wp2
        go_ret
        exact ⟨ret_bool (by rw [HF.out]), Ext.trans hB hb1⟩
    · have hz2 : (x.spaces == 0) = false := by simp [hz]
      obtain ⟨s, hsp⟩ := Int.eq_ofNat_of_zero_le s0
      have HE := hid (show peerHas pods space ip x = (sels x.need x.ban p.labels && (x.spaces / 2 ^ s % 2 == 1)) by rw [HG.out, if_neg hz, hsp]; rfl)
      have hsa : p.space ≤ (s : Int) := by omega
      have hsb : (s : Int) ≤ p.space := by omega
      clear hz hsp
      cases hq : sels x.need x.ban p.labels
      all_goals
        have HQ := hid hq
        go_enter Tryz.func167, Tryz.ntmps167
        go_wp2_with (go_at_call 110; refine (refAt_any pods ip _ _ _ _ _ _ (rdPods.to HP.out bel)).mono ?_; rw [HI.out]; rintro e w2 ⟨rfl, hb2⟩; obtain ⟨hc2, hf2⟩ := bcell hb2; have hz2 := hb_lt hb2; obtain ⟨⟨y0, y1, y2, y3⟩, hB⟩ := HM.out _ hb2; have d2 := cell_to c2 hB; have d3 := cell_to c3 hB; clear hc2 hf2 hz2)
        refine wp_region_grow (by kernel_rfl) (by kernel_rfl) ?_
        repeat (go_big_quiet_step (first
          | (go_at_call 139; exact Calls.grow_bool hq (refSelects_any _ _ _ _ n0 n1 b0 b1 l0 l1))))
        refine wpQuiet_nil ?_
        intro w1 hb1
        obtain ⟨hc1, hf1⟩ := bcell hb1
        have hz1 := hb_lt hb1
        have v0 := cell_to y0 hb1
        have v3 := cell_to y3 hb1
        have u2 := cell_to d2 hb1
        clear hc1 hf1 hz1
        go_wp2
        go_loop [14, 15] (fun n i => ∃ (t : Nat) (m : Int), t ≤ s ∧ i = .int .i64 t ∧ n = .int .i64 m ∧ m = x.spaces / 2 ^ t ∧ 0 ≤ m ∧ m ≤ 15) (fun _ i => s - (intOf i).toNat)
        case atStart => exact ⟨0, x.spaces, Nat.zero_le _, rfl, rfl, by simp, hs0, hs1⟩
        case round =>
          obtain ⟨t, m, ht, rfl, rfl, hm, m0, m1⟩ := hrel
          have HN := hid hm
          clear hm
          by_cases hlt : t < s
          · have hlt2 : (t : Int) < p.space := by omega
            go_wp2
            go_round
            case rel => exact ⟨t + 1, m / 2, by omega, by go_num, by go_num, by rw [HN.out, half_pow], by omega, by omega⟩
            case measure => simp [intOf]; omega
          · have hlt2 : ¬ (t : Int) < p.space := by omega
            have e : t = s := by omega
            subst e
            have HF := hid (show peerHas pods space ip x = (sels x.need x.ban p.labels && (m % 2 == 1)) by rw [HE.out, HN.out])
            go_wp2
            go_ret
            exact ⟨ret_bool (by rw [HF.out, HQ.out]; simp), Ext.trans hB hb1⟩
theorem refHasPeer (x : DPeer) (ea : Option Addr) (ec : Nat) (ip space : Int) (pods : List DPod) (pa qa : Option Addr) (pc qn qc : Nat) (w : World) (hr : rdBlks w.heap.size w ea x.exc) (hp : rdPods w.heap.size w pa pods) (ho : podsOk pods)
    (hx : peerOk x = true) (i0 : 0 ≤ ip) (i1 : ip ≤ 4294967295) :
    Calls Tryz.prog 167 #[.agg #[.slice pa pods.length pc, .slice qa qn qc], .int .i64 space, .agg #[.int .i64 x.kind, .int .i64 x.need, .int .i64 x.ban, .int .i64 x.spaces, .int .i64 x.base, .int .i64 x.bits, .slice ea x.exc.length ec], .int .i64 ip] w
      fun e w' => e = .returned (.bool (peerHas pods space ip x)) ∧ Below w.heap.size w w' := by
  by_cases hk : x.kind = 1
  · obtain ⟨h1, h2, h3⟩ := peerOk_pods' hx hk
    exact refHasPods x ea _ ec ip space pods pa qa pc qn qc w hp ho (by omega) h1 h2 h3
  · obtain ⟨h1, h2, h3⟩ := peerOk_blocks' hx hk
    have := refHasBlocks x ea ec ip space pa qa pods.length pc qn qc w hr h1 h2 h3 i0 i1
    rw [show peerHas pods space ip x = (blkHas ip ⟨x.base, x.bits⟩ && !(x.exc.any (blkHas ip))) by rw [peerHas, if_pos h1]]
    exact this
end Go.Proofs.YtmkjlhplgcifiaaGreat
