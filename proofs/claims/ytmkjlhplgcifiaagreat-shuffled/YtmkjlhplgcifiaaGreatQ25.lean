/-
  palisadekeep: at, has, fits, packet, allowed.
-/
import Derived.Test.YtmkjlhplgcifiaaGreatQ18
import Derived.Test.YtmkjlhplgcifiaaGreatQ16
import Derived.Deep.RegionHeld3
namespace Go.Proofs.YtmkjlhplgcifiaaGreat
open Go.ChangeShapes Go.WideShapes Go.ChangeAt Go.RowKit
attribute [local simp] World.cell?_grow
attribute [local go_sem] World.cell?_grow
attribute [local simp] World.cell?_alloc_there
attribute [local go_sem] World.cell?_alloc_there
attribute [local go_sem] eqg_blk std_blk eqg_pod std_pod eqg_sel std_sel eqg_prt std_prt
attribute [local go_sem ↓] eql_blk eql_sel neq_sel eql_prt eql_pod
attribute [local go_sem ↓] met_in1 met_in2 met_re1 met_re2
attribute [local go_sem ↓] met_has1 met_has2
attribute [local go_sem ↓] met_bl1 met_bl2
attribute [local go_sem] eqg_row std_row
attribute [local go_sem ↓] neq_row
set_option linter.unusedVariables false
set_option linter.unusedSimpArgs false

set_option maxHeartbeats 2000000 in
theorem keepAt_any (l : List DPod) (ip : Int) (pa qa : Option Addr) (pc qn qc : Nat) (w : World) (hp : rdPods w.heap.size w pa l) :
    Calls Tryz.prog 24 #[.agg #[.slice pa l.length pc, .slice qa qn qc], .int .i64 ip] w fun e w' => e = .returned (.int .i64 (ixOf l ip)) ∧ Below w.heap.size w w' := by
  have HP := hid hp
  have hlen := hp.1
  clear hp
  go_enter Tryz.func24, Tryz.ntmps24
  go_wp2
  go_loop [5] (fun i => ∃ k : Nat, k ≤ l.length ∧ i = .int .i64 k ∧ ∀ j y, j < k → l[j]? = some y → ¬ y.ip = ip) (fun i => l.length - (intOf i).toNat)
  case atStart => exact ⟨0, Nat.zero_le _, rfl, fun j y hj => absurd hj (Nat.not_lt_zero _)⟩
  case round =>
    obtain ⟨k, hk, rfl, hall⟩ := hrel
    have HA := hid hall
    clear hall
    by_cases hlt : k < l.length
    · obtain ⟨x, hxk⟩ : ∃ x, l[k]? = some x := ⟨l[k], by simp [hlt]⟩
      have HX := hid hxk
      clear hxk
      obtain ⟨b, off, rfl, hb, c0, c1, c2, c3⟩ := HP.out.2 k x HX.out
      cases hx : (x.ip == ip)
      · go_wp2
        go_round
        case rel =>
          refine ⟨k + 1, by omega, by go_num, fun j y hj hy => ?_⟩
          rcases Nat.lt_succ_iff_lt_or_eq.1 hj with h | h
          · exact HA.out j y h hy
          · subst h
            rw [HX.out] at hy
            cases hy
            simpa using hx
        case measure => simp [intOf]; omega
      · have HF := hid (ix_at HX.out HA.out (by simpa using hx))
        go_wp2
        go_ret
        exact ⟨by rw [HF.out]; rfl, (by repeat (first | exact Below.refl _ _ | assumption | apply Ext.alloc | apply Ext.drewN | apply Ext.drew | refine Ext.trans ?_ (by assumption)))⟩
    · have HF := hid (ix_none (l := l) (ip := ip) (fun j y hj => HA.out j y (by omega)))
      go_wp2
      go_ret
      exact ⟨by rw [HF.out]; rfl, (by repeat (first | exact Below.refl _ _ | assumption | apply Ext.alloc | apply Ext.drewN | apply Ext.drew | refine Ext.trans ?_ (by assumption)))⟩

theorem has_zero {b : DBlk} (h : blkOk b = true) (e : b.bits = 0) {ip : Int} (h0 : 0 ≤ ip) (h1 : ip ≤ 4294967295) : blkHas ip b = true := by
  obtain ⟨b0, b1, b2, b3, b4⟩ := blkOk_true.1 h
  have e2 : pw b.bits = 4294967296 := by rw [e]; decide
  simp only [blkHas, e2, decide_eq_true_eq]
  rw [e2] at b4
  omega
theorem keepHas_any (b : DBlk) (ip : Int) (w : World) (h : blkOk b = true) (h0 : 0 ≤ ip) (h1 : ip ≤ 4294967295) :
    Calls Tryz.prog 25 #[.agg #[.int .i64 b.base, .int .i64 b.bits], .int .i64 ip] w fun e w' => e = .returned (.bool (blkHas ip b)) ∧ Below w.heap.size w w' := by
  obtain ⟨b0, b1, b2, b3, b4⟩ := blkOk_true.1 h
  by_cases e : b.bits = 0
  · have HF := hid (has_zero h e h0 h1)
    have hq : (b.bits == 0) = true := by simp [e]
    clear h b4 e
    go_enter Tryz.func25, Tryz.ntmps25
    go_wp2
    refine wp_region_grow (by kernel_rfl) (by kernel_rfl) ?_
    repeat (go_big_quiet_step (fail))
    refine wpQuiet_nil ?_
    intro w1 hb1
    obtain ⟨hc1, hf1⟩ := bcell hb1
    have hz1 := hb_lt hb1
    go_wp2
    go_ret
    exact ⟨ret_bool (by rw [HF.out]), (by repeat (first | exact Below.refl _ _ | assumption | apply Ext.alloc | apply Ext.drewN | apply Ext.drew | refine Ext.trans ?_ (by assumption)))⟩
  · have hq : (b.bits == 0) = false := by simp [e]
    have h32 : 0 ≤ 32 - b.bits := by omega
    clear h b4 e
    go_enter Tryz.func25, Tryz.ntmps25
    go_wp2
    refine wp_region_grow (by kernel_rfl) (by kernel_rfl) ?_
    repeat (go_big_quiet_step (fail))
    refine wpQuiet_nil ?_
    intro w1 hb1
    obtain ⟨hc1, hf1⟩ := bcell hb1
    have hz1 := hb_lt hb1
    go_wp2
    go_ret
    exact ⟨ret_bool (ibeq _ _), (by repeat (first | exact Below.refl _ _ | assumption | apply Ext.alloc | apply Ext.drewN | apply Ext.drew | refine Ext.trans ?_ (by assumption)))⟩
set_option maxHeartbeats 1000000 in
theorem keepFits_any (r : DRow) (k : DPkt) (w : World) (hr : rowOk r = true) (hk : pktOk k = true) :
    Calls Tryz.prog 19 #[.agg #[.int .i64 r.sb, .int .i64 r.sn, .int .i64 r.db, .int .i64 r.dn, .int .i64 r.proto, .int .i64 r.lo, .int .i64 r.hi, .bool r.allow], .agg #[.int .i64 k.src, .int .i64 k.dst, .int .i64 k.proto, .int .i64 k.port]] w fun e w' => e = .returned (.bool (rowFits k r)) ∧ Below w.heap.size w w' := by
  obtain ⟨r1, r2, r3⟩ := rowOk_true.1 hr
  obtain ⟨s0, s1, _⟩ := blkOk_true.1 r1
  obtain ⟨d0, d1, _⟩ := blkOk_true.1 r2
  have s0 : 0 ≤ r.sn := s0
  have s1 : r.sn ≤ 32 := s1
  have d0 : 0 ≤ r.dn := d0
  have d1 : r.dn ≤ 32 := d1
  simp only [pktOk, Bool.and_eq_true, btw, decide_eq_true_eq] at hk
  obtain ⟨⟨⟨⟨k0, k1⟩, ⟨k2, k3⟩⟩, _⟩, _⟩ := hk
  have HF := hid (show rowFits k r = (blkHas k.src ⟨r.sb, r.sn⟩ && blkHas k.dst ⟨r.db, r.dn⟩ && ((decide (r.proto = 0) || decide (r.proto = k.proto)) && (decide (r.lo ≤ k.port) && decide (k.port ≤ r.hi)))) from rfl)
  have R1 := hid r1
  have R2 := hid r2
  clear hr r1 r2 r3
  cases hq1 : blkHas k.src ⟨r.sb, r.sn⟩
  · rw [hq1] at HF
    go_enter Tryz.func19, Tryz.ntmps19
    go_wp2_with (first
        | (go_at_call 25; refine (keepHas_any ⟨_, _⟩ _ _ ?_ ?_ ?_).mono ?_; exact R1.out; assumption; assumption; rintro e w1 ⟨rfl, hb1⟩; obtain ⟨hc1, hf1⟩ := bcell hb1; have hz1 := hb_lt hb1; have x2 : w1.cell? ⟨w.heap.size, 2, none⟩ = some (.int .i64 r.db) := cell_to (by simp [go_sem]) hb1; have x3 : w1.cell? ⟨w.heap.size, 3, none⟩ = some (.int .i64 r.dn) := cell_to (by simp [go_sem]) hb1; have x4 : w1.cell? ⟨w.heap.size, 4, none⟩ = some (.int .i64 r.proto) := cell_to (by simp [go_sem]) hb1; have x5 : w1.cell? ⟨w.heap.size, 5, none⟩ = some (.int .i64 r.lo) := cell_to (by simp [go_sem]) hb1; have x6 : w1.cell? ⟨w.heap.size, 6, none⟩ = some (.int .i64 r.hi) := cell_to (by simp [go_sem]) hb1; have y1 : w1.cell? ⟨w.heap.size + 1, 1, none⟩ = some (.int .i64 k.dst) := cell_to (by simp [go_sem]) hb1; have y2 : w1.cell? ⟨w.heap.size + 1, 2, none⟩ = some (.int .i64 k.proto) := cell_to (by simp [go_sem]) hb1; have y3 : w1.cell? ⟨w.heap.size + 1, 3, none⟩ = some (.int .i64 k.port) := cell_to (by simp [go_sem]) hb1; clear hc1)
        | (go_at_call 25; refine (keepHas_any ⟨_, _⟩ _ _ ?_ ?_ ?_).mono ?_; exact R2.out; assumption; assumption; rintro e w2 ⟨rfl, hb2⟩; obtain ⟨hc2, hf2⟩ := bcell hb2; have hz2 := hb_lt hb2; have x2' := cell_to x2 hb2; have x3' := cell_to x3 hb2; have x4' := cell_to x4 hb2; have x5' := cell_to x5 hb2; have x6' := cell_to x6 hb2; have y1' := cell_to y1 hb2; have y2' := cell_to y2 hb2; have y3' := cell_to y3 hb2; clear hc2))
    go_ret
    exact ⟨ret_bool (by rw [HF.out]; simp), (by repeat (first | exact Below.refl _ _ | assumption | apply Ext.alloc | apply Ext.drewN | apply Ext.drew | refine Ext.trans ?_ (by assumption)))⟩
  cases hq2 : blkHas k.dst ⟨r.db, r.dn⟩
  · rw [hq1, hq2] at HF
    go_enter Tryz.func19, Tryz.ntmps19
    go_wp2_with (first
        | (go_at_call 25; refine (keepHas_any ⟨_, _⟩ _ _ ?_ ?_ ?_).mono ?_; exact R1.out; assumption; assumption; rintro e w1 ⟨rfl, hb1⟩; obtain ⟨hc1, hf1⟩ := bcell hb1; have hz1 := hb_lt hb1; have x2 : w1.cell? ⟨w.heap.size, 2, none⟩ = some (.int .i64 r.db) := cell_to (by simp [go_sem]) hb1; have x3 : w1.cell? ⟨w.heap.size, 3, none⟩ = some (.int .i64 r.dn) := cell_to (by simp [go_sem]) hb1; have x4 : w1.cell? ⟨w.heap.size, 4, none⟩ = some (.int .i64 r.proto) := cell_to (by simp [go_sem]) hb1; have x5 : w1.cell? ⟨w.heap.size, 5, none⟩ = some (.int .i64 r.lo) := cell_to (by simp [go_sem]) hb1; have x6 : w1.cell? ⟨w.heap.size, 6, none⟩ = some (.int .i64 r.hi) := cell_to (by simp [go_sem]) hb1; have y1 : w1.cell? ⟨w.heap.size + 1, 1, none⟩ = some (.int .i64 k.dst) := cell_to (by simp [go_sem]) hb1; have y2 : w1.cell? ⟨w.heap.size + 1, 2, none⟩ = some (.int .i64 k.proto) := cell_to (by simp [go_sem]) hb1; have y3 : w1.cell? ⟨w.heap.size + 1, 3, none⟩ = some (.int .i64 k.port) := cell_to (by simp [go_sem]) hb1; clear hc1)
        | (go_at_call 25; refine (keepHas_any ⟨_, _⟩ _ _ ?_ ?_ ?_).mono ?_; exact R2.out; assumption; assumption; rintro e w2 ⟨rfl, hb2⟩; obtain ⟨hc2, hf2⟩ := bcell hb2; have hz2 := hb_lt hb2; have x2' := cell_to x2 hb2; have x3' := cell_to x3 hb2; have x4' := cell_to x4 hb2; have x5' := cell_to x5 hb2; have x6' := cell_to x6 hb2; have y1' := cell_to y1 hb2; have y2' := cell_to y2 hb2; have y3' := cell_to y3 hb2; clear hc2))
    go_ret
    exact ⟨ret_bool (by rw [HF.out]; simp), (by repeat (first | exact Below.refl _ _ | assumption | apply Ext.alloc | apply Ext.drewN | apply Ext.drew | refine Ext.trans ?_ (by assumption)))⟩
  cases hq3 : (r.proto == 0)
  · cases hq4 : (r.proto == k.proto)
    · rw [hq1, hq2, ← ibeq, ← ibeq, hq3, hq4] at HF
      go_enter Tryz.func19, Tryz.ntmps19
      go_wp2_with (first
        | (go_at_call 25; refine (keepHas_any ⟨_, _⟩ _ _ ?_ ?_ ?_).mono ?_; exact R1.out; assumption; assumption; rintro e w1 ⟨rfl, hb1⟩; obtain ⟨hc1, hf1⟩ := bcell hb1; have hz1 := hb_lt hb1; have x2 : w1.cell? ⟨w.heap.size, 2, none⟩ = some (.int .i64 r.db) := cell_to (by simp [go_sem]) hb1; have x3 : w1.cell? ⟨w.heap.size, 3, none⟩ = some (.int .i64 r.dn) := cell_to (by simp [go_sem]) hb1; have x4 : w1.cell? ⟨w.heap.size, 4, none⟩ = some (.int .i64 r.proto) := cell_to (by simp [go_sem]) hb1; have x5 : w1.cell? ⟨w.heap.size, 5, none⟩ = some (.int .i64 r.lo) := cell_to (by simp [go_sem]) hb1; have x6 : w1.cell? ⟨w.heap.size, 6, none⟩ = some (.int .i64 r.hi) := cell_to (by simp [go_sem]) hb1; have y1 : w1.cell? ⟨w.heap.size + 1, 1, none⟩ = some (.int .i64 k.dst) := cell_to (by simp [go_sem]) hb1; have y2 : w1.cell? ⟨w.heap.size + 1, 2, none⟩ = some (.int .i64 k.proto) := cell_to (by simp [go_sem]) hb1; have y3 : w1.cell? ⟨w.heap.size + 1, 3, none⟩ = some (.int .i64 k.port) := cell_to (by simp [go_sem]) hb1; clear hc1)
        | (go_at_call 25; refine (keepHas_any ⟨_, _⟩ _ _ ?_ ?_ ?_).mono ?_; exact R2.out; assumption; assumption; rintro e w2 ⟨rfl, hb2⟩; obtain ⟨hc2, hf2⟩ := bcell hb2; have hz2 := hb_lt hb2; have x2' := cell_to x2 hb2; have x3' := cell_to x3 hb2; have x4' := cell_to x4 hb2; have x5' := cell_to x5 hb2; have x6' := cell_to x6 hb2; have y1' := cell_to y1 hb2; have y2' := cell_to y2 hb2; have y3' := cell_to y3 hb2; clear hc2))
      go_ret
      exact ⟨ret_bool (by rw [HF.out]; simp), (by repeat (first | exact Below.refl _ _ | assumption | apply Ext.alloc | apply Ext.drewN | apply Ext.drew | refine Ext.trans ?_ (by assumption)))⟩
    · rw [hq1, hq2, ← ibeq, ← ibeq, hq3, hq4] at HF
      by_cases hq5 : r.lo ≤ k.port
      · go_enter Tryz.func19, Tryz.ntmps19
        go_wp2_with (first
        | (go_at_call 25; refine (keepHas_any ⟨_, _⟩ _ _ ?_ ?_ ?_).mono ?_; exact R1.out; assumption; assumption; rintro e w1 ⟨rfl, hb1⟩; obtain ⟨hc1, hf1⟩ := bcell hb1; have hz1 := hb_lt hb1; have x2 : w1.cell? ⟨w.heap.size, 2, none⟩ = some (.int .i64 r.db) := cell_to (by simp [go_sem]) hb1; have x3 : w1.cell? ⟨w.heap.size, 3, none⟩ = some (.int .i64 r.dn) := cell_to (by simp [go_sem]) hb1; have x4 : w1.cell? ⟨w.heap.size, 4, none⟩ = some (.int .i64 r.proto) := cell_to (by simp [go_sem]) hb1; have x5 : w1.cell? ⟨w.heap.size, 5, none⟩ = some (.int .i64 r.lo) := cell_to (by simp [go_sem]) hb1; have x6 : w1.cell? ⟨w.heap.size, 6, none⟩ = some (.int .i64 r.hi) := cell_to (by simp [go_sem]) hb1; have y1 : w1.cell? ⟨w.heap.size + 1, 1, none⟩ = some (.int .i64 k.dst) := cell_to (by simp [go_sem]) hb1; have y2 : w1.cell? ⟨w.heap.size + 1, 2, none⟩ = some (.int .i64 k.proto) := cell_to (by simp [go_sem]) hb1; have y3 : w1.cell? ⟨w.heap.size + 1, 3, none⟩ = some (.int .i64 k.port) := cell_to (by simp [go_sem]) hb1; clear hc1)
        | (go_at_call 25; refine (keepHas_any ⟨_, _⟩ _ _ ?_ ?_ ?_).mono ?_; exact R2.out; assumption; assumption; rintro e w2 ⟨rfl, hb2⟩; obtain ⟨hc2, hf2⟩ := bcell hb2; have hz2 := hb_lt hb2; have x2' := cell_to x2 hb2; have x3' := cell_to x3 hb2; have x4' := cell_to x4 hb2; have x5' := cell_to x5 hb2; have x6' := cell_to x6 hb2; have y1' := cell_to y1 hb2; have y2' := cell_to y2 hb2; have y3' := cell_to y3 hb2; clear hc2))
        go_ret
        exact ⟨ret_bool (by rw [HF.out]; first | (simp [hq5]; done) | (simp [hq5]; omega) | (simp [*]; done)), (by repeat (first | exact Below.refl _ _ | assumption | apply Ext.alloc | apply Ext.drewN | apply Ext.drew | refine Ext.trans ?_ (by assumption)))⟩
      · go_enter Tryz.func19, Tryz.ntmps19
        go_wp2_with (first
        | (go_at_call 25; refine (keepHas_any ⟨_, _⟩ _ _ ?_ ?_ ?_).mono ?_; exact R1.out; assumption; assumption; rintro e w1 ⟨rfl, hb1⟩; obtain ⟨hc1, hf1⟩ := bcell hb1; have hz1 := hb_lt hb1; have x2 : w1.cell? ⟨w.heap.size, 2, none⟩ = some (.int .i64 r.db) := cell_to (by simp [go_sem]) hb1; have x3 : w1.cell? ⟨w.heap.size, 3, none⟩ = some (.int .i64 r.dn) := cell_to (by simp [go_sem]) hb1; have x4 : w1.cell? ⟨w.heap.size, 4, none⟩ = some (.int .i64 r.proto) := cell_to (by simp [go_sem]) hb1; have x5 : w1.cell? ⟨w.heap.size, 5, none⟩ = some (.int .i64 r.lo) := cell_to (by simp [go_sem]) hb1; have x6 : w1.cell? ⟨w.heap.size, 6, none⟩ = some (.int .i64 r.hi) := cell_to (by simp [go_sem]) hb1; have y1 : w1.cell? ⟨w.heap.size + 1, 1, none⟩ = some (.int .i64 k.dst) := cell_to (by simp [go_sem]) hb1; have y2 : w1.cell? ⟨w.heap.size + 1, 2, none⟩ = some (.int .i64 k.proto) := cell_to (by simp [go_sem]) hb1; have y3 : w1.cell? ⟨w.heap.size + 1, 3, none⟩ = some (.int .i64 k.port) := cell_to (by simp [go_sem]) hb1; clear hc1)
        | (go_at_call 25; refine (keepHas_any ⟨_, _⟩ _ _ ?_ ?_ ?_).mono ?_; exact R2.out; assumption; assumption; rintro e w2 ⟨rfl, hb2⟩; obtain ⟨hc2, hf2⟩ := bcell hb2; have hz2 := hb_lt hb2; have x2' := cell_to x2 hb2; have x3' := cell_to x3 hb2; have x4' := cell_to x4 hb2; have x5' := cell_to x5 hb2; have x6' := cell_to x6 hb2; have y1' := cell_to y1 hb2; have y2' := cell_to y2 hb2; have y3' := cell_to y3 hb2; clear hc2))
        go_ret
        exact ⟨ret_bool (by rw [HF.out]; first | (simp [hq5]; done) | (simp [hq5]; omega) | (simp [*]; done)), (by repeat (first | exact Below.refl _ _ | assumption | apply Ext.alloc | apply Ext.drewN | apply Ext.drew | refine Ext.trans ?_ (by assumption)))⟩
  · rw [hq1, hq2, ← ibeq, hq3] at HF
    by_cases hq5 : r.lo ≤ k.port
    · go_enter Tryz.func19, Tryz.ntmps19
      go_wp2_with (first
        | (go_at_call 25; refine (keepHas_any ⟨_, _⟩ _ _ ?_ ?_ ?_).mono ?_; exact R1.out; assumption; assumption; rintro e w1 ⟨rfl, hb1⟩; obtain ⟨hc1, hf1⟩ := bcell hb1; have hz1 := hb_lt hb1; have x2 : w1.cell? ⟨w.heap.size, 2, none⟩ = some (.int .i64 r.db) := cell_to (by simp [go_sem]) hb1; have x3 : w1.cell? ⟨w.heap.size, 3, none⟩ = some (.int .i64 r.dn) := cell_to (by simp [go_sem]) hb1; have x4 : w1.cell? ⟨w.heap.size, 4, none⟩ = some (.int .i64 r.proto) := cell_to (by simp [go_sem]) hb1; have x5 : w1.cell? ⟨w.heap.size, 5, none⟩ = some (.int .i64 r.lo) := cell_to (by simp [go_sem]) hb1; have x6 : w1.cell? ⟨w.heap.size, 6, none⟩ = some (.int .i64 r.hi) := cell_to (by simp [go_sem]) hb1; have y1 : w1.cell? ⟨w.heap.size + 1, 1, none⟩ = some (.int .i64 k.dst) := cell_to (by simp [go_sem]) hb1; have y2 : w1.cell? ⟨w.heap.size + 1, 2, none⟩ = some (.int .i64 k.proto) := cell_to (by simp [go_sem]) hb1; have y3 : w1.cell? ⟨w.heap.size + 1, 3, none⟩ = some (.int .i64 k.port) := cell_to (by simp [go_sem]) hb1; clear hc1)
        | (go_at_call 25; refine (keepHas_any ⟨_, _⟩ _ _ ?_ ?_ ?_).mono ?_; exact R2.out; assumption; assumption; rintro e w2 ⟨rfl, hb2⟩; obtain ⟨hc2, hf2⟩ := bcell hb2; have hz2 := hb_lt hb2; have x2' := cell_to x2 hb2; have x3' := cell_to x3 hb2; have x4' := cell_to x4 hb2; have x5' := cell_to x5 hb2; have x6' := cell_to x6 hb2; have y1' := cell_to y1 hb2; have y2' := cell_to y2 hb2; have y3' := cell_to y3 hb2; clear hc2))
      go_ret
      exact ⟨ret_bool (by rw [HF.out]; first | (simp [hq5]; done) | (simp [hq5]; omega) | (simp [*]; done)), (by repeat (first | exact Below.refl _ _ | assumption | apply Ext.alloc | apply Ext.drewN | apply Ext.drew | refine Ext.trans ?_ (by assumption)))⟩
    · go_enter Tryz.func19, Tryz.ntmps19
      go_wp2_with (first
        | (go_at_call 25; refine (keepHas_any ⟨_, _⟩ _ _ ?_ ?_ ?_).mono ?_; exact R1.out; assumption; assumption; rintro e w1 ⟨rfl, hb1⟩; obtain ⟨hc1, hf1⟩ := bcell hb1; have hz1 := hb_lt hb1; have x2 : w1.cell? ⟨w.heap.size, 2, none⟩ = some (.int .i64 r.db) := cell_to (by simp [go_sem]) hb1; have x3 : w1.cell? ⟨w.heap.size, 3, none⟩ = some (.int .i64 r.dn) := cell_to (by simp [go_sem]) hb1; have x4 : w1.cell? ⟨w.heap.size, 4, none⟩ = some (.int .i64 r.proto) := cell_to (by simp [go_sem]) hb1; have x5 : w1.cell? ⟨w.heap.size, 5, none⟩ = some (.int .i64 r.lo) := cell_to (by simp [go_sem]) hb1; have x6 : w1.cell? ⟨w.heap.size, 6, none⟩ = some (.int .i64 r.hi) := cell_to (by simp [go_sem]) hb1; have y1 : w1.cell? ⟨w.heap.size + 1, 1, none⟩ = some (.int .i64 k.dst) := cell_to (by simp [go_sem]) hb1; have y2 : w1.cell? ⟨w.heap.size + 1, 2, none⟩ = some (.int .i64 k.proto) := cell_to (by simp [go_sem]) hb1; have y3 : w1.cell? ⟨w.heap.size + 1, 3, none⟩ = some (.int .i64 k.port) := cell_to (by simp [go_sem]) hb1; clear hc1)
        | (go_at_call 25; refine (keepHas_any ⟨_, _⟩ _ _ ?_ ?_ ?_).mono ?_; exact R2.out; assumption; assumption; rintro e w2 ⟨rfl, hb2⟩; obtain ⟨hc2, hf2⟩ := bcell hb2; have hz2 := hb_lt hb2; have x2' := cell_to x2 hb2; have x3' := cell_to x3 hb2; have x4' := cell_to x4 hb2; have x5' := cell_to x5 hb2; have x6' := cell_to x6 hb2; have y1' := cell_to y1 hb2; have y2' := cell_to y2 hb2; have y3' := cell_to y3 hb2; clear hc2))
      go_ret
      exact ⟨ret_bool (by rw [HF.out]; first | (simp [hq5]; done) | (simp [hq5]; omega) | (simp [*]; done)), (by repeat (first | exact Below.refl _ _ | assumption | apply Ext.alloc | apply Ext.drewN | apply Ext.drew | refine Ext.trans ?_ (by assumption)))⟩
end Go.Proofs.YtmkjlhplgcifiaaGreat
