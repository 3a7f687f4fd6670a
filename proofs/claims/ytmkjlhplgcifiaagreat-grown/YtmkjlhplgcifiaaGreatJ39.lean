/-
  Which row decides; the places; a copy of rows.
  palisadekeep: at, has, fits, packet, allowed.
-/
import Derived.Test.YtmkjlhplgcifiaaGreatJ38
import Derived.Test.YtmkjlhplgcifiaaGreatJ15
import Derived.Test.YtmkjlhplgcifiaaGreatJ29
import Derived.Deep.RegionHeld3
namespace Go.Proofs.YtmkjlhplgcifiaaGreat
open Go.ChangeShapes Go.WideShapes Go.ChangeAt Go.RowKit
attribute [local simp] World.cell?_grow
attribute [local go_sem] World.cell?_grow
attribute [local simp] World.cell?_alloc_there
attribute [local go_sem] World.cell?_alloc_there
attribute [local go_sem] eqg_blk std_blk eqg_pod std_pod eqg_sel std_sel eqg_prt std_prt
attribute [local go_sem ↓] eql_blk eql_sel neq_sel eql_prt eql_pod
attribute [local go_sem ↓] met_in1 met_in2 met_re1 met_re2
attribute [local go_sem ↓] met_has1 met_has2
attribute [local go_sem ↓] met_bl1 met_bl2
attribute [local go_sem] eqg_row std_row
attribute [local go_sem ↓] neq_row
set_option linter.unusedVariables false
set_option linter.unusedSimpArgs false
def rowOk (r : DRow) : Bool := blkOk ⟨r.sb, r.sn⟩ && blkOk ⟨r.db, r.dn⟩ && prtOk ⟨r.proto, r.lo, r.hi⟩
def rowFits (k : DPkt) (r : DRow) : Bool := blkHas k.src ⟨r.sb, r.sn⟩ && blkHas k.dst ⟨r.db, r.dn⟩ && prtFits k ⟨r.proto, r.lo, r.hi⟩
theorem rowOk_true {r : DRow} : rowOk r = true ↔ blkOk ⟨r.sb, r.sn⟩ = true ∧ blkOk ⟨r.db, r.dn⟩ = true ∧ prtOk ⟨r.proto, r.lo, r.hi⟩ = true := by simp [rowOk, and_assoc]
theorem fits_any (r : DRow) (k : DPkt) (w : World) (hr : rowOk r = true) (hk : pktOk k = true) :
    Calls Tryz.prog 67 #[.agg #[.int .i64 r.sb, .int .i64 r.sn, .int .i64 r.db, .int .i64 r.dn, .int .i64 r.proto, .int .i64 r.lo, .int .i64 r.hi, .bool r.allow], .agg #[.int .i64 k.src, .int .i64 k.dst, .int .i64 k.proto, .int .i64 k.port]] w
      fun e w' => e = .returned (.bool (rowFits k r)) ∧ Below w.heap.size w w' := by
  have h1 := (rowOk_true.1 hr).1
  have h2 := (rowOk_true.1 hr).2.1
  have s1 := pktOk_src hk
  have s2 := pktOk_dst hk
  have HS := hid (And.intro h1 (And.intro h2 (And.intro s1 s2)))
  clear hr hk h1 h2 s1 s2
  have M1 := hid True.intro
  go_enter Tryz.func67, Tryz.ntmps67
  cases hq1 : blkHas k.src ⟨r.sb, r.sn⟩
  · go_wp2_with (first
      | (go_at_call 104; have m1 := M1.out; refine (blkHas_any ⟨r.sb, r.sn⟩ k.src _ HS.out.1 HS.out.2.2.1.1 HS.out.2.2.1.2).mono ?_; rintro e w1 ⟨rfl, hb1⟩; have p2 : w1.cell? ⟨w.heap.size, 2, none⟩ = some (.int .i64 r.db) := cell_to (by simp [go_sem]) hb1; have p3 : w1.cell? ⟨w.heap.size, 3, none⟩ = some (.int .i64 r.dn) := cell_to (by simp [go_sem]) hb1; have p4 : w1.cell? ⟨w.heap.size, 4, none⟩ = some (.int .i64 r.proto) := cell_to (by simp [go_sem]) hb1; have p5 : w1.cell? ⟨w.heap.size, 5, none⟩ = some (.int .i64 r.lo) := cell_to (by simp [go_sem]) hb1; have p6 : w1.cell? ⟨w.heap.size, 6, none⟩ = some (.int .i64 r.hi) := cell_to (by simp [go_sem]) hb1; have pk0 : w1.cell? ⟨w.heap.size + 1, 0, none⟩ = some (.int .i64 k.src) := cell_to (by simp [go_sem]) hb1; have pk1 : w1.cell? ⟨w.heap.size + 1, 1, none⟩ = some (.int .i64 k.dst) := cell_to (by simp [go_sem]) hb1; have pk2 : w1.cell? ⟨w.heap.size + 1, 2, none⟩ = some (.int .i64 k.proto) := cell_to (by simp [go_sem]) hb1; have pk3 : w1.cell? ⟨w.heap.size + 1, 3, none⟩ = some (.int .i64 k.port) := cell_to (by simp [go_sem]) hb1; have hz1 := hb_lt hb1; clear M1 m1)
      | (go_at_call 104; refine (blkHas_any ⟨r.db, r.dn⟩ k.dst _ HS.out.2.1 HS.out.2.2.2.1 HS.out.2.2.2.2).mono ?_; rintro e w2 ⟨rfl, hb2⟩; have q2 : w2.cell? ⟨w.heap.size, 2, none⟩ = some (.int .i64 r.db) := cell_to (p2) hb2; have q3 : w2.cell? ⟨w.heap.size, 3, none⟩ = some (.int .i64 r.dn) := cell_to (p3) hb2; have q4 : w2.cell? ⟨w.heap.size, 4, none⟩ = some (.int .i64 r.proto) := cell_to (p4) hb2; have q5 : w2.cell? ⟨w.heap.size, 5, none⟩ = some (.int .i64 r.lo) := cell_to (p5) hb2; have q6 : w2.cell? ⟨w.heap.size, 6, none⟩ = some (.int .i64 r.hi) := cell_to (p6) hb2; have qk0 : w2.cell? ⟨w.heap.size + 1, 0, none⟩ = some (.int .i64 k.src) := cell_to (pk0) hb2; have qk1 : w2.cell? ⟨w.heap.size + 1, 1, none⟩ = some (.int .i64 k.dst) := cell_to (pk1) hb2; have qk2 : w2.cell? ⟨w.heap.size + 1, 2, none⟩ = some (.int .i64 k.proto) := cell_to (pk2) hb2; have qk3 : w2.cell? ⟨w.heap.size + 1, 3, none⟩ = some (.int .i64 k.port) := cell_to (pk3) hb2; have hz2 := hb_lt hb2)
      | (go_at_call 105; refine (prtFits_any ⟨r.proto, r.lo, r.hi⟩ k _).mono ?_; rintro e w3 ⟨rfl, hb3⟩))
    go_ret
    exact ⟨by simp [rowFits, hq1], (by repeat (first | exact Below.refl _ _ | assumption | apply Ext.alloc | apply Ext.drewN | apply Ext.drew | refine Ext.trans ?_ (by assumption)))⟩
  cases hq2 : blkHas k.dst ⟨r.db, r.dn⟩
  · go_wp2_with (first
      | (go_at_call 104; have m1 := M1.out; refine (blkHas_any ⟨r.sb, r.sn⟩ k.src _ HS.out.1 HS.out.2.2.1.1 HS.out.2.2.1.2).mono ?_; rintro e w1 ⟨rfl, hb1⟩; have p2 : w1.cell? ⟨w.heap.size, 2, none⟩ = some (.int .i64 r.db) := cell_to (by simp [go_sem]) hb1; have p3 : w1.cell? ⟨w.heap.size, 3, none⟩ = some (.int .i64 r.dn) := cell_to (by simp [go_sem]) hb1; have p4 : w1.cell? ⟨w.heap.size, 4, none⟩ = some (.int .i64 r.proto) := cell_to (by simp [go_sem]) hb1; have p5 : w1.cell? ⟨w.heap.size, 5, none⟩ = some (.int .i64 r.lo) := cell_to (by simp [go_sem]) hb1; have p6 : w1.cell? ⟨w.heap.size, 6, none⟩ = some (.int .i64 r.hi) := cell_to (by simp [go_sem]) hb1; have pk0 : w1.cell? ⟨w.heap.size + 1, 0, none⟩ = some (.int .i64 k.src) := cell_to (by simp [go_sem]) hb1; have pk1 : w1.cell? ⟨w.heap.size + 1, 1, none⟩ = some (.int .i64 k.dst) := cell_to (by simp [go_sem]) hb1; have pk2 : w1.cell? ⟨w.heap.size + 1, 2, none⟩ = some (.int .i64 k.proto) := cell_to (by simp [go_sem]) hb1; have pk3 : w1.cell? ⟨w.heap.size + 1, 3, none⟩ = some (.int .i64 k.port) := cell_to (by simp [go_sem]) hb1; have hz1 := hb_lt hb1; clear M1 m1)
      | (go_at_call 104; refine (blkHas_any ⟨r.db, r.dn⟩ k.dst _ HS.out.2.1 HS.out.2.2.2.1 HS.out.2.2.2.2).mono ?_; rintro e w2 ⟨rfl, hb2⟩; have q2 : w2.cell? ⟨w.heap.size, 2, none⟩ = some (.int .i64 r.db) := cell_to (p2) hb2; have q3 : w2.cell? ⟨w.heap.size, 3, none⟩ = some (.int .i64 r.dn) := cell_to (p3) hb2; have q4 : w2.cell? ⟨w.heap.size, 4, none⟩ = some (.int .i64 r.proto) := cell_to (p4) hb2; have q5 : w2.cell? ⟨w.heap.size, 5, none⟩ = some (.int .i64 r.lo) := cell_to (p5) hb2; have q6 : w2.cell? ⟨w.heap.size, 6, none⟩ = some (.int .i64 r.hi) := cell_to (p6) hb2; have qk0 : w2.cell? ⟨w.heap.size + 1, 0, none⟩ = some (.int .i64 k.src) := cell_to (pk0) hb2; have qk1 : w2.cell? ⟨w.heap.size + 1, 1, none⟩ = some (.int .i64 k.dst) := cell_to (pk1) hb2; have qk2 : w2.cell? ⟨w.heap.size + 1, 2, none⟩ = some (.int .i64 k.proto) := cell_to (pk2) hb2; have qk3 : w2.cell? ⟨w.heap.size + 1, 3, none⟩ = some (.int .i64 k.port) := cell_to (pk3) hb2; have hz2 := hb_lt hb2)
      | (go_at_call 105; refine (prtFits_any ⟨r.proto, r.lo, r.hi⟩ k _).mono ?_; rintro e w3 ⟨rfl, hb3⟩))
    go_ret
    exact ⟨by simp [rowFits, hq1, hq2], (by repeat (first | exact Below.refl _ _ | assumption | apply Ext.alloc | apply Ext.drewN | apply Ext.drew | refine Ext.trans ?_ (by assumption)))⟩
  cases hq3 : prtFits k ⟨r.proto, r.lo, r.hi⟩
  · go_wp2_with (first
      | (go_at_call 104; have m1 := M1.out; refine (blkHas_any ⟨r.sb, r.sn⟩ k.src _ HS.out.1 HS.out.2.2.1.1 HS.out.2.2.1.2).mono ?_; rintro e w1 ⟨rfl, hb1⟩; have p2 : w1.cell? ⟨w.heap.size, 2, none⟩ = some (.int .i64 r.db) := cell_to (by simp [go_sem]) hb1; have p3 : w1.cell? ⟨w.heap.size, 3, none⟩ = some (.int .i64 r.dn) := cell_to (by simp [go_sem]) hb1; have p4 : w1.cell? ⟨w.heap.size, 4, none⟩ = some (.int .i64 r.proto) := cell_to (by simp [go_sem]) hb1; have p5 : w1.cell? ⟨w.heap.size, 5, none⟩ = some (.int .i64 r.lo) := cell_to (by simp [go_sem]) hb1; have p6 : w1.cell? ⟨w.heap.size, 6, none⟩ = some (.int .i64 r.hi) := cell_to (by simp [go_sem]) hb1; have pk0 : w1.cell? ⟨w.heap.size + 1, 0, none⟩ = some (.int .i64 k.src) := cell_to (by simp [go_sem]) hb1; have pk1 : w1.cell? ⟨w.heap.size + 1, 1, none⟩ = some (.int .i64 k.dst) := cell_to (by simp [go_sem]) hb1; have pk2 : w1.cell? ⟨w.heap.size + 1, 2, none⟩ = some (.int .i64 k.proto) := cell_to (by simp [go_sem]) hb1; have pk3 : w1.cell? ⟨w.heap.size + 1, 3, none⟩ = some (.int .i64 k.port) := cell_to (by simp [go_sem]) hb1; have hz1 := hb_lt hb1; clear M1 m1)
      | (go_at_call 104; refine (blkHas_any ⟨r.db, r.dn⟩ k.dst _ HS.out.2.1 HS.out.2.2.2.1 HS.out.2.2.2.2).mono ?_; rintro e w2 ⟨rfl, hb2⟩; have q2 : w2.cell? ⟨w.heap.size, 2, none⟩ = some (.int .i64 r.db) := cell_to (p2) hb2; have q3 : w2.cell? ⟨w.heap.size, 3, none⟩ = some (.int .i64 r.dn) := cell_to (p3) hb2; have q4 : w2.cell? ⟨w.heap.size, 4, none⟩ = some (.int .i64 r.proto) := cell_to (p4) hb2; have q5 : w2.cell? ⟨w.heap.size, 5, none⟩ = some (.int .i64 r.lo) := cell_to (p5) hb2; have q6 : w2.cell? ⟨w.heap.size, 6, none⟩ = some (.int .i64 r.hi) := cell_to (p6) hb2; have qk0 : w2.cell? ⟨w.heap.size + 1, 0, none⟩ = some (.int .i64 k.src) := cell_to (pk0) hb2; have qk1 : w2.cell? ⟨w.heap.size + 1, 1, none⟩ = some (.int .i64 k.dst) := cell_to (pk1) hb2; have qk2 : w2.cell? ⟨w.heap.size + 1, 2, none⟩ = some (.int .i64 k.proto) := cell_to (pk2) hb2; have qk3 : w2.cell? ⟨w.heap.size + 1, 3, none⟩ = some (.int .i64 k.port) := cell_to (pk3) hb2; have hz2 := hb_lt hb2)
      | (go_at_call 105; refine (prtFits_any ⟨r.proto, r.lo, r.hi⟩ k _).mono ?_; rintro e w3 ⟨rfl, hb3⟩))
    go_ret
    exact ⟨by simp [rowFits, hq1, hq2, hq3], (by repeat (first | exact Below.refl _ _ | assumption | apply Ext.alloc | apply Ext.drewN | apply Ext.drew | refine Ext.trans ?_ (by assumption)))⟩
  go_wp2_with (first
    | (go_at_call 104; have m1 := M1.out; refine (blkHas_any ⟨r.sb, r.sn⟩ k.src _ HS.out.1 HS.out.2.2.1.1 HS.out.2.2.1.2).mono ?_; rintro e w1 ⟨rfl, hb1⟩; have p2 : w1.cell? ⟨w.heap.size, 2, none⟩ = some (.int .i64 r.db) := cell_to (by simp [go_sem]) hb1; have p3 : w1.cell? ⟨w.heap.size, 3, none⟩ = some (.int .i64 r.dn) := cell_to (by simp [go_sem]) hb1; have p4 : w1.cell? ⟨w.heap.size, 4, none⟩ = some (.int .i64 r.proto) := cell_to (by simp [go_sem]) hb1; have p5 : w1.cell? ⟨w.heap.size, 5, none⟩ = some (.int .i64 r.lo) := cell_to (by simp [go_sem]) hb1; have p6 : w1.cell? ⟨w.heap.size, 6, none⟩ = some (.int .i64 r.hi) := cell_to (by simp [go_sem]) hb1; have pk0 : w1.cell? ⟨w.heap.size + 1, 0, none⟩ = some (.int .i64 k.src) := cell_to (by simp [go_sem]) hb1; have pk1 : w1.cell? ⟨w.heap.size + 1, 1, none⟩ = some (.int .i64 k.dst) := cell_to (by simp [go_sem]) hb1; have pk2 : w1.cell? ⟨w.heap.size + 1, 2, none⟩ = some (.int .i64 k.proto) := cell_to (by simp [go_sem]) hb1; have pk3 : w1.cell? ⟨w.heap.size + 1, 3, none⟩ = some (.int .i64 k.port) := cell_to (by simp [go_sem]) hb1; have hz1 := hb_lt hb1; clear M1 m1)
    | (go_at_call 104; refine (blkHas_any ⟨r.db, r.dn⟩ k.dst _ HS.out.2.1 HS.out.2.2.2.1 HS.out.2.2.2.2).mono ?_; rintro e w2 ⟨rfl, hb2⟩; have q2 : w2.cell? ⟨w.heap.size, 2, none⟩ = some (.int .i64 r.db) := cell_to (p2) hb2; have q3 : w2.cell? ⟨w.heap.size, 3, none⟩ = some (.int .i64 r.dn) := cell_to (p3) hb2; have q4 : w2.cell? ⟨w.heap.size, 4, none⟩ = some (.int .i64 r.proto) := cell_to (p4) hb2; have q5 : w2.cell? ⟨w.heap.size, 5, none⟩ = some (.int .i64 r.lo) := cell_to (p5) hb2; have q6 : w2.cell? ⟨w.heap.size, 6, none⟩ = some (.int .i64 r.hi) := cell_to (p6) hb2; have qk0 : w2.cell? ⟨w.heap.size + 1, 0, none⟩ = some (.int .i64 k.src) := cell_to (pk0) hb2; have qk1 : w2.cell? ⟨w.heap.size + 1, 1, none⟩ = some (.int .i64 k.dst) := cell_to (pk1) hb2; have qk2 : w2.cell? ⟨w.heap.size + 1, 2, none⟩ = some (.int .i64 k.proto) := cell_to (pk2) hb2; have qk3 : w2.cell? ⟨w.heap.size + 1, 3, none⟩ = some (.int .i64 k.port) := cell_to (pk3) hb2; have hz2 := hb_lt hb2)
    | (go_at_call 105; refine (prtFits_any ⟨r.proto, r.lo, r.hi⟩ k _).mono ?_; rintro e w3 ⟨rfl, hb3⟩))
  go_ret
  exact ⟨by simp [rowFits, hq1, hq2, hq3], (by repeat (first | exact Below.refl _ _ | assumption | apply Ext.alloc | apply Ext.drewN | apply Ext.drew | refine Ext.trans ?_ (by assumption)))⟩
theorem decClo (r : DRow) (k : DPkt) (kb : Nat) (w : World) (hr : rowOk r = true) (hk : pktOk k = true) (c0 : w.cell? ⟨kb, 0, none⟩ = some (.int .i64 k.src)) (c1 : w.cell? ⟨kb, 1, none⟩ = some (.int .i64 k.dst)) (c2 : w.cell? ⟨kb, 2, none⟩ = some (.int .i64 k.proto)) (c3 : w.cell? ⟨kb, 3, none⟩ = some (.int .i64 k.port)) :
    Calls Tryz.prog 66 #[.agg #[.int .i64 r.sb, .int .i64 r.sn, .int .i64 r.db, .int .i64 r.dn, .int .i64 r.proto, .int .i64 r.lo, .int .i64 r.hi, .bool r.allow], .pointer (some ⟨kb, 0, none⟩)] w
      fun e w' => e = .returned (.bool (rowFits k r)) ∧ Below w.heap.size w w' := by
  have l1 := cell_lt c0
  have HR := hid hr
  have HK := hid hk
  clear hr hk
  go_enter Tryz.func66, Tryz.ntmps66
  go_wp2_with (go_at_call 67; refine (fits_any r k _ HR.out HK.out).mono ?_; rintro e w1 ⟨rfl, hb1⟩; obtain ⟨hc1, hf1⟩ := bcell hb1; have hz1 := hb_lt hb1)
  go_ret
  exact ⟨rfl, (by repeat (first | exact Below.refl _ _ | assumption | apply Ext.alloc | apply Ext.drewN | apply Ext.drew | refine Ext.trans ?_ (by assumption)))⟩
theorem indexFunc_any (f : DRow → Bool) (k0 : Value) (a : Option Addr) (cap n : Nat) (l : List DRow) (w : World) (hl : rdRows w.heap.size w a l) (hn : l.findIdx? f = some n)
    (hK : ∀ (x : DRow) (w1 : World), x ∈ l → Below w.heap.size w w1 → Calls Tryz.prog 66 #[.agg #[.int .i64 x.sb, .int .i64 x.sn, .int .i64 x.db, .int .i64 x.dn, .int .i64 x.proto, .int .i64 x.lo, .int .i64 x.hi, .bool x.allow], k0] w1 fun e w2 => e = .returned (.bool (f x)) ∧ Below w1.heap.size w1 w2) :
    Calls Tryz.prog 65 #[.slice a l.length cap, .func (.func 66) #[] #[k0]] w fun e w' => e = .returned (.int .i64 n) ∧ Below w.heap.size w w' := by
  have HK := hid hK
  obtain ⟨hlen, hl⟩ := hl
  have HL := hid hl
  obtain ⟨hnl, hnf, hnb⟩ := List.findIdx?_eq_some_iff_getElem.1 hn
  have HNF := hid hnf
  have HNB := hid hnb
  clear hl hK hn hnf hnb
  go_enter Tryz.func65, Tryz.ntmps65
  go_wp2
  go_loopw [8] (fun i wr => ∃ k : Nat, k ≤ n ∧ i = .int .i64 k ∧ Below w.heap.size w wr) (fun i _ => l.length - (intOf i).toNat)
  case atStart => exact ⟨0, Nat.zero_le _, rfl, Below.refl _ _⟩
  case round =>
    obtain ⟨k, hk, rfl, hbw⟩ := hrel
    have hlt : k < l.length := by omega
    obtain ⟨hc, hf⟩ := bcell hbw
    obtain ⟨b, off, rfl, hb, c0, c1, c2, c3, c4, c5, c6, c7⟩ := HL.out k l[k] (by simp)
    rcases Nat.lt_or_ge k n with h | h
    · have hx : f l[k] = false := by simpa using HNB.out k h
      have HXM := hid (show l[k] ∈ l from List.getElem_mem _)
      generalize l[k] = x at hx HXM c0 c1 c2 c3 c4 c5 c6 c7
      go_wp2_with (go_at_call 66; refine (HK.out x _ HXM.out (by repeat (first | exact Below.refl _ _ | assumption | apply Ext.alloc | apply Ext.drewN | apply Ext.drew | refine Ext.trans ?_ (by assumption)))).mono ?_; rw [hx]; rintro e w1 ⟨rfl, hb1⟩)
      exact ⟨⟨k + 1, by omega, by go_num, (by repeat (first | exact Below.refl _ _ | assumption | apply Ext.alloc | apply Ext.drewN | apply Ext.drew | refine Ext.trans ?_ (by assumption)))⟩, by simp [intOf]; omega⟩
    · have e : k = n := by omega
      subst e
      have hx : f l[k] = true := HNF.out
      have HXM := hid (show l[k] ∈ l from List.getElem_mem _)
      generalize l[k] = x at hx HXM c0 c1 c2 c3 c4 c5 c6 c7
      go_wp2_with (go_at_call 66; refine (HK.out x _ HXM.out (by repeat (first | exact Below.refl _ _ | assumption | apply Ext.alloc | apply Ext.drewN | apply Ext.drew | refine Ext.trans ?_ (by assumption)))).mono ?_; rw [hx]; rintro e w1 ⟨rfl, hb1⟩)
      go_ret
      exact ⟨rfl, (by repeat (first | exact Below.refl _ _ | assumption | apply Ext.alloc | apply Ext.drewN | apply Ext.drew | refine Ext.trans ?_ (by assumption)))⟩
theorem decides_any (l : List DRow) (k : DPkt) (n : Nat) (r : DRow) (a : Option Addr) (cap : Nat) (w : World) (hl : rdRows w.heap.size w a l) (hok : ∀ x ∈ l, rowOk x = true) (hk : pktOk k = true) (hn : l.findIdx? (rowFits k) = some n) (hr : l[n]? = some r) :
    Calls Tryz.prog 37 #[.slice a l.length cap, .agg #[.int .i64 k.src, .int .i64 k.dst, .int .i64 k.proto, .int .i64 k.port]] w fun e w' => e = .returned (.tuple #[.bool r.allow, .int .i64 n]) ∧ Below w.heap.size w w' := by
  have HL := hid hl
  have HOK := hid hok
  have HK := hid hk
  have HN := hid hn
  have hlen := hl.1
  obtain ⟨b, off, rfl, hb, c0, c1, c2, c3, c4, c5, c6, c7⟩ := hl.2 n r hr
  have hnl : n < l.length := (List.getElem?_eq_some_iff.1 hr).1
  have i0 : (0 : Int) ≤ (n : Int) := by omega
  have i1 : (n : Int) < (l.length : Int) := by omega
  have hmf := mkFunc
  clear hl hok hk hn hr c0 c1 c2 c3 c4 c5 c6
  go_enter Tryz.func37, Tryz.ntmps37
  go_wp2_with (go_at_call 65; go_must (refine (indexFunc_any (rowFits k) _ _ _ n _ _ (rdRows.to HL.out (by repeat (first | exact Below.refl _ _ | assumption | apply Ext.alloc | apply Ext.drewN | apply Ext.drew | refine Ext.trans ?_ (by assumption)))) HN.out (fun x w2 hx hb2 => decClo x k _ w2 (HOK.out x hx) HK.out (cell_to (by simp [go_sem]) hb2) (cell_to (by simp [go_sem]) hb2) (cell_to (by simp [go_sem]) hb2) (cell_to (by simp [go_sem]) hb2))).mono ?_); rintro e w1 ⟨rfl, hb1⟩; have d7 := cell_to c7 (show Below w.heap.size w w1 from (by repeat (first | exact Below.refl _ _ | assumption | apply Ext.alloc | apply Ext.drewN | apply Ext.drew | refine Ext.trans ?_ (by assumption)))))
  go_ret2
  exact ⟨rfl, (by repeat (first | exact Below.refl _ _ | assumption | apply Ext.alloc | apply Ext.drewN | apply Ext.drew | refine Ext.trans ?_ (by assumption)))⟩
end Go.Proofs.YtmkjlhplgcifiaaGreat
namespace Go.Proofs.YtmkjlhplgcifiaaGreat
open Go.ChangeShapes Go.WideShapes Go.ChangeAt Go.RowKit
attribute [local simp] World.cell?_grow
attribute [local go_sem] World.cell?_grow
attribute [local simp] World.cell?_alloc_there
attribute [local go_sem] World.cell?_alloc_there
attribute [local go_sem] eqg_blk std_blk eqg_pod std_pod eqg_sel std_sel eqg_prt std_prt
attribute [local go_sem ↓] eql_blk eql_sel neq_sel eql_prt eql_pod
attribute [local go_sem ↓] met_in1 met_in2 met_re1 met_re2
attribute [local go_sem ↓] met_has1 met_has2
attribute [local go_sem ↓] met_bl1 met_bl2
attribute [local go_sem] eqg_row std_row
attribute [local go_sem ↓] neq_row
set_option linter.unusedVariables false
set_option linter.unusedSimpArgs false
set_option maxHeartbeats 2000000 in
theorem keepAt_any (l : List DPod) (ip : Int) (pa qa : Option Addr) (pc qn qc : Nat) (w : World) (hp : rdPods w.heap.size w pa l) :
    Calls Tryz.prog 24 #[.agg #[.slice pa l.length pc, .slice qa qn qc], .int .i64 ip] w fun e w' => e = .returned (.int .i64 (ixOf l ip)) ∧ Below w.heap.size w w' := by
  have HP := hid hp
  have hlen := hp.1
  clear hp
  go_enter Tryz.func24, Tryz.ntmps24
  go_wp2
  go_loop [5] (fun i => ∃ k : Nat, k ≤ l.length ∧ i = .int .i64 k ∧ ∀ j y, j < k → l[j]? = some y → ¬ y.ip = ip) (fun i => l.length - (intOf i).toNat)
  case atStart => exact ⟨0, Nat.zero_le _, rfl, fun j y hj => absurd hj (Nat.not_lt_zero _)⟩
  case round =>
    obtain ⟨k, hk, rfl, hall⟩ := hrel
    have HA := hid hall
    clear hall
    by_cases hlt : k < l.length
    · obtain ⟨x, hxk⟩ : ∃ x, l[k]? = some x := ⟨l[k], by simp [hlt]⟩
      have HX := hid hxk
      clear hxk
      obtain ⟨b, off, rfl, hb, c0, c1, c2, c3⟩ := HP.out.2 k x HX.out
      cases hx : (x.ip == ip)
      · go_wp2
        go_round
        case rel =>
          refine ⟨k + 1, by omega, by go_num, fun j y hj hy => ?_⟩
          rcases Nat.lt_succ_iff_lt_or_eq.1 hj with h | h
          · exact HA.out j y h hy
          · subst h
            rw [HX.out] at hy
            cases hy
            simpa using hx
        case measure => simp [intOf]; omega
      · have HF := hid (ix_at HX.out HA.out (by simpa using hx))
        go_wp2
        go_ret
        exact ⟨by rw [HF.out]; rfl, (by repeat (first | exact Below.refl _ _ | assumption | apply Ext.alloc | apply Ext.drewN | apply Ext.drew | refine Ext.trans ?_ (by assumption)))⟩
    · have HF := hid (ix_none (l := l) (ip := ip) (fun j y hj => HA.out j y (by omega)))
      go_wp2
      go_ret
      exact ⟨by rw [HF.out]; rfl, (by repeat (first | exact Below.refl _ _ | assumption | apply Ext.alloc | apply Ext.drewN | apply Ext.drew | refine Ext.trans ?_ (by assumption)))⟩
end Go.Proofs.YtmkjlhplgcifiaaGreat
