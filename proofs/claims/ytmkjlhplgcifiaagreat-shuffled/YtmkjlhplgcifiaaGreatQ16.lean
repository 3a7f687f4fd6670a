/-
  Which row decides; the places; a copy of rows.
  The places, in their order.
  slices.Clone at rows: a list of its own with the same rows.
  palisade.Allowed: the whole of P4.
-/
import Derived.Test.YtmkjlhplgcifiaaGreatQ14
import Derived.Test.YtmkjlhplgcifiaaGreatQ15
import Derived.Test.YtmkjlhplgcifiaaGreatQ13
namespace Go.Proofs.YtmkjlhplgcifiaaGreat
open Go.ChangeShapes Go.WideShapes Go.ChangeAt Go.RowKit
attribute [local simp] World.cell?_grow
attribute [local go_sem] World.cell?_grow
attribute [local simp] World.cell?_alloc_there
attribute [local go_sem] World.cell?_alloc_there
attribute [local go_sem] eqg_blk std_blk eqg_pod std_pod eqg_sel std_sel eqg_prt std_prt
attribute [local go_sem ↓] eql_blk eql_sel neq_sel eql_prt eql_pod
attribute [local go_sem ↓] met_in1 met_in2 met_re1 met_re2
attribute [local go_sem ↓] met_has1 met_has2
attribute [local go_sem ↓] met_bl1 met_bl2
attribute [local go_sem] eqg_row std_row
attribute [local go_sem ↓] neq_row
set_option linter.unusedVariables false
set_option linter.unusedSimpArgs false

def rowOk (r : DRow) : Bool := blkOk ⟨r.sb, r.sn⟩ && blkOk ⟨r.db, r.dn⟩ && prtOk ⟨r.proto, r.lo, r.hi⟩
def rowFits (k : DPkt) (r : DRow) : Bool := blkHas k.src ⟨r.sb, r.sn⟩ && blkHas k.dst ⟨r.db, r.dn⟩ && prtFits k ⟨r.proto, r.lo, r.hi⟩
theorem rowOk_true {r : DRow} : rowOk r = true ↔ blkOk ⟨r.sb, r.sn⟩ = true ∧ blkOk ⟨r.db, r.dn⟩ = true ∧ prtOk ⟨r.proto, r.lo, r.hi⟩ = true := by simp [rowOk, and_assoc]

theorem fits_any (r : DRow) (k : DPkt) (w : World) (hr : rowOk r = true) (hk : pktOk k = true) :
    Calls Tryz.prog 67 #[.agg #[.int .i64 r.sb, .int .i64 r.sn, .int .i64 r.db, .int .i64 r.dn, .int .i64 r.proto, .int .i64 r.lo, .int .i64 r.hi, .bool r.allow], .agg #[.int .i64 k.src, .int .i64 k.dst, .int .i64 k.proto, .int .i64 k.port]] w
      fun e w' => e = .returned (.bool (rowFits k r)) ∧ Below w.heap.size w w' := by
  have h1 := (rowOk_true.1 hr).1
  have h2 := (rowOk_true.1 hr).2.1
  have s1 := pktOk_src hk
  have s2 := pktOk_dst hk
  have HS := hid (And.intro h1 (And.intro h2 (And.intro s1 s2)))
  clear hr hk h1 h2 s1 s2
  have M1 := hid True.intro
  go_enter Tryz.func67, Tryz.ntmps67
  cases hq1 : blkHas k.src ⟨r.sb, r.sn⟩
  · go_wp2_with (first
      | (go_at_call 104; have m1 := M1.out; refine (blkHas_any ⟨r.sb, r.sn⟩ k.src _ HS.out.1 HS.out.2.2.1.1 HS.out.2.2.1.2).mono ?_; rintro e w1 ⟨rfl, hb1⟩; have p2 : w1.cell? ⟨w.heap.size, 2, none⟩ = some (.int .i64 r.db) := cell_to (by simp [go_sem]) hb1; have p3 : w1.cell? ⟨w.heap.size, 3, none⟩ = some (.int .i64 r.dn) := cell_to (by simp [go_sem]) hb1; have p4 : w1.cell? ⟨w.heap.size, 4, none⟩ = some (.int .i64 r.proto) := cell_to (by simp [go_sem]) hb1; have p5 : w1.cell? ⟨w.heap.size, 5, none⟩ = some (.int .i64 r.lo) := cell_to (by simp [go_sem]) hb1; have p6 : w1.cell? ⟨w.heap.size, 6, none⟩ = some (.int .i64 r.hi) := cell_to (by simp [go_sem]) hb1; have pk0 : w1.cell? ⟨w.heap.size + 1, 0, none⟩ = some (.int .i64 k.src) := cell_to (by simp [go_sem]) hb1; have pk1 : w1.cell? ⟨w.heap.size + 1, 1, none⟩ = some (.int .i64 k.dst) := cell_to (by simp [go_sem]) hb1; have pk2 : w1.cell? ⟨w.heap.size + 1, 2, none⟩ = some (.int .i64 k.proto) := cell_to (by simp [go_sem]) hb1; have pk3 : w1.cell? ⟨w.heap.size + 1, 3, none⟩ = some (.int .i64 k.port) := cell_to (by simp [go_sem]) hb1; have hz1 := hb_lt hb1; clear M1 m1)
      | (go_at_call 104; refine (blkHas_any ⟨r.db, r.dn⟩ k.dst _ HS.out.2.1 HS.out.2.2.2.1 HS.out.2.2.2.2).mono ?_; rintro e w2 ⟨rfl, hb2⟩; have q2 : w2.cell? ⟨w.heap.size, 2, none⟩ = some (.int .i64 r.db) := cell_to (p2) hb2; have q3 : w2.cell? ⟨w.heap.size, 3, none⟩ = some (.int .i64 r.dn) := cell_to (p3) hb2; have q4 : w2.cell? ⟨w.heap.size, 4, none⟩ = some (.int .i64 r.proto) := cell_to (p4) hb2; have q5 : w2.cell? ⟨w.heap.size, 5, none⟩ = some (.int .i64 r.lo) := cell_to (p5) hb2; have q6 : w2.cell? ⟨w.heap.size, 6, none⟩ = some (.int .i64 r.hi) := cell_to (p6) hb2; have qk0 : w2.cell? ⟨w.heap.size + 1, 0, none⟩ = some (.int .i64 k.src) := cell_to (pk0) hb2; have qk1 : w2.cell? ⟨w.heap.size + 1, 1, none⟩ = some (.int .i64 k.dst) := cell_to (pk1) hb2; have qk2 : w2.cell? ⟨w.heap.size + 1, 2, none⟩ = some (.int .i64 k.proto) := cell_to (pk2) hb2; have qk3 : w2.cell? ⟨w.heap.size + 1, 3, none⟩ = some (.int .i64 k.port) := cell_to (pk3) hb2; have hz2 := hb_lt hb2)
      | (go_at_call 105; refine (prtFits_any ⟨r.proto, r.lo, r.hi⟩ k _).mono ?_; rintro e w3 ⟨rfl, hb3⟩))
    go_ret
    exact ⟨by simp [rowFits, hq1], (by repeat (first | exact Below.refl _ _ | assumption | apply Ext.alloc | apply Ext.drewN | apply Ext.drew | refine Ext.trans ?_ (by assumption)))⟩
  cases hq2 : blkHas k.dst ⟨r.db, r.dn⟩
  · go_wp2_with (first
      | (go_at_call 104; have m1 := M1.out; refine (blkHas_any ⟨r.sb, r.sn⟩ k.src _ HS.out.1 HS.out.2.2.1.1 HS.out.2.2.1.2).mono ?_; rintro e w1 ⟨rfl, hb1⟩; have p2 : w1.cell? ⟨w.heap.size, 2, none⟩ = some (.int .i64 r.db) := cell_to (by simp [go_sem]) hb1; have p3 : w1.cell? ⟨w.heap.size, 3, none⟩ = some (.int .i64 r.dn) := cell_to (by simp [go_sem]) hb1; have p4 : w1.cell? ⟨w.heap.size, 4, none⟩ = some (.int .i64 r.proto) := cell_to (by simp [go_sem]) hb1; have p5 : w1.cell? ⟨w.heap.size, 5, none⟩ = some (.int .i64 r.lo) := cell_to (by simp [go_sem]) hb1; have p6 : w1.cell? ⟨w.heap.size, 6, none⟩ = some (.int .i64 r.hi) := cell_to (by simp [go_sem]) hb1; have pk0 : w1.cell? ⟨w.heap.size + 1, 0, none⟩ = some (.int .i64 k.src) := cell_to (by simp [go_sem]) hb1; have pk1 : w1.cell? ⟨w.heap.size + 1, 1, none⟩ = some (.int .i64 k.dst) := cell_to (by simp [go_sem]) hb1; have pk2 : w1.cell? ⟨w.heap.size + 1, 2, none⟩ = some (.int .i64 k.proto) := cell_to (by simp [go_sem]) hb1; have pk3 : w1.cell? ⟨w.heap.size + 1, 3, none⟩ = some (.int .i64 k.port) := cell_to (by simp [go_sem]) hb1; have hz1 := hb_lt hb1; clear M1 m1)
      | (go_at_call 104; refine (blkHas_any ⟨r.db, r.dn⟩ k.dst _ HS.out.2.1 HS.out.2.2.2.1 HS.out.2.2.2.2).mono ?_; rintro e w2 ⟨rfl, hb2⟩; have q2 : w2.cell? ⟨w.heap.size, 2, none⟩ = some (.int .i64 r.db) := cell_to (p2) hb2; have q3 : w2.cell? ⟨w.heap.size, 3, none⟩ = some (.int .i64 r.dn) := cell_to (p3) hb2; have q4 : w2.cell? ⟨w.heap.size, 4, none⟩ = some (.int .i64 r.proto) := cell_to (p4) hb2; have q5 : w2.cell? ⟨w.heap.size, 5, none⟩ = some (.int .i64 r.lo) := cell_to (p5) hb2; have q6 : w2.cell? ⟨w.heap.size, 6, none⟩ = some (.int .i64 r.hi) := cell_to (p6) hb2; have qk0 : w2.cell? ⟨w.heap.size + 1, 0, none⟩ = some (.int .i64 k.src) := cell_to (pk0) hb2; have qk1 : w2.cell? ⟨w.heap.size + 1, 1, none⟩ = some (.int .i64 k.dst) := cell_to (pk1) hb2; have qk2 : w2.cell? ⟨w.heap.size + 1, 2, none⟩ = some (.int .i64 k.proto) := cell_to (pk2) hb2; have qk3 : w2.cell? ⟨w.heap.size + 1, 3, none⟩ = some (.int .i64 k.port) := cell_to (pk3) hb2; have hz2 := hb_lt hb2)
      | (go_at_call 105; refine (prtFits_any ⟨r.proto, r.lo, r.hi⟩ k _).mono ?_; rintro e w3 ⟨rfl, hb3⟩))
    go_ret
    exact ⟨by simp [rowFits, hq1, hq2], (by repeat (first | exact Below.refl _ _ | assumption | apply Ext.alloc | apply Ext.drewN | apply Ext.drew | refine Ext.trans ?_ (by assumption)))⟩
  cases hq3 : prtFits k ⟨r.proto, r.lo, r.hi⟩
  · go_wp2_with (first
      | (go_at_call 104; have m1 := M1.out; refine (blkHas_any ⟨r.sb, r.sn⟩ k.src _ HS.out.1 HS.out.2.2.1.1 HS.out.2.2.1.2).mono ?_; rintro e w1 ⟨rfl, hb1⟩; have p2 : w1.cell? ⟨w.heap.size, 2, none⟩ = some (.int .i64 r.db) := cell_to (by simp [go_sem]) hb1; have p3 : w1.cell? ⟨w.heap.size, 3, none⟩ = some (.int .i64 r.dn) := cell_to (by simp [go_sem]) hb1; have p4 : w1.cell? ⟨w.heap.size, 4, none⟩ = some (.int .i64 r.proto) := cell_to (by simp [go_sem]) hb1; have p5 : w1.cell? ⟨w.heap.size, 5, none⟩ = some (.int .i64 r.lo) := cell_to (by simp [go_sem]) hb1; have p6 : w1.cell? ⟨w.heap.size, 6, none⟩ = some (.int .i64 r.hi) := cell_to (by simp [go_sem]) hb1; have pk0 : w1.cell? ⟨w.heap.size + 1, 0, none⟩ = some (.int .i64 k.src) := cell_to (by simp [go_sem]) hb1; have pk1 : w1.cell? ⟨w.heap.size + 1, 1, none⟩ = some (.int .i64 k.dst) := cell_to (by simp [go_sem]) hb1; have pk2 : w1.cell? ⟨w.heap.size + 1, 2, none⟩ = some (.int .i64 k.proto) := cell_to (by simp [go_sem]) hb1; have pk3 : w1.cell? ⟨w.heap.size + 1, 3, none⟩ = some (.int .i64 k.port) := cell_to (by simp [go_sem]) hb1; have hz1 := hb_lt hb1; clear M1 m1)
      | (go_at_call 104; refine (blkHas_any ⟨r.db, r.dn⟩ k.dst _ HS.out.2.1 HS.out.2.2.2.1 HS.out.2.2.2.2).mono ?_; rintro e w2 ⟨rfl, hb2⟩; have q2 : w2.cell? ⟨w.heap.size, 2, none⟩ = some (.int .i64 r.db) := cell_to (p2) hb2; have q3 : w2.cell? ⟨w.heap.size, 3, none⟩ = some (.int .i64 r.dn) := cell_to (p3) hb2; have q4 : w2.cell? ⟨w.heap.size, 4, none⟩ = some (.int .i64 r.proto) := cell_to (p4) hb2; have q5 : w2.cell? ⟨w.heap.size, 5, none⟩ = some (.int .i64 r.lo) := cell_to (p5) hb2; have q6 : w2.cell? ⟨w.heap.size, 6, none⟩ = some (.int .i64 r.hi) := cell_to (p6) hb2; have qk0 : w2.cell? ⟨w.heap.size + 1, 0, none⟩ = some (.int .i64 k.src) := cell_to (pk0) hb2; have qk1 : w2.cell? ⟨w.heap.size + 1, 1, none⟩ = some (.int .i64 k.dst) := cell_to (pk1) hb2; have qk2 : w2.cell? ⟨w.heap.size + 1, 2, none⟩ = some (.int .i64 k.proto) := cell_to (pk2) hb2; have qk3 : w2.cell? ⟨w.heap.size + 1, 3, none⟩ = some (.int .i64 k.port) := cell_to (pk3) hb2; have hz2 := hb_lt hb2)
      | (go_at_call 105; refine (prtFits_any ⟨r.proto, r.lo, r.hi⟩ k _).mono ?_; rintro e w3 ⟨rfl, hb3⟩))
    go_ret
    exact ⟨by simp [rowFits, hq1, hq2, hq3], (by repeat (first | exact Below.refl _ _ | assumption | apply Ext.alloc | apply Ext.drewN | apply Ext.drew | refine Ext.trans ?_ (by assumption)))⟩
  go_wp2_with (first
    | (go_at_call 104; have m1 := M1.out; refine (blkHas_any ⟨r.sb, r.sn⟩ k.src _ HS.out.1 HS.out.2.2.1.1 HS.out.2.2.1.2).mono ?_; rintro e w1 ⟨rfl, hb1⟩; have p2 : w1.cell? ⟨w.heap.size, 2, none⟩ = some (.int .i64 r.db) := cell_to (by simp [go_sem]) hb1; have p3 : w1.cell? ⟨w.heap.size, 3, none⟩ = some (.int .i64 r.dn) := cell_to (by simp [go_sem]) hb1; have p4 : w1.cell? ⟨w.heap.size, 4, none⟩ = some (.int .i64 r.proto) := cell_to (by simp [go_sem]) hb1; have p5 : w1.cell? ⟨w.heap.size, 5, none⟩ = some (.int .i64 r.lo) := cell_to (by simp [go_sem]) hb1; have p6 : w1.cell? ⟨w.heap.size, 6, none⟩ = some (.int .i64 r.hi) := cell_to (by simp [go_sem]) hb1; have pk0 : w1.cell? ⟨w.heap.size + 1, 0, none⟩ = some (.int .i64 k.src) := cell_to (by simp [go_sem]) hb1; have pk1 : w1.cell? ⟨w.heap.size + 1, 1, none⟩ = some (.int .i64 k.dst) := cell_to (by simp [go_sem]) hb1; have pk2 : w1.cell? ⟨w.heap.size + 1, 2, none⟩ = some (.int .i64 k.proto) := cell_to (by simp [go_sem]) hb1; have pk3 : w1.cell? ⟨w.heap.size + 1, 3, none⟩ = some (.int .i64 k.port) := cell_to (by simp [go_sem]) hb1; have hz1 := hb_lt hb1; clear M1 m1)
    | (go_at_call 104; refine (blkHas_any ⟨r.db, r.dn⟩ k.dst _ HS.out.2.1 HS.out.2.2.2.1 HS.out.2.2.2.2).mono ?_; rintro e w2 ⟨rfl, hb2⟩; have q2 : w2.cell? ⟨w.heap.size, 2, none⟩ = some (.int .i64 r.db) := cell_to (p2) hb2; have q3 : w2.cell? ⟨w.heap.size, 3, none⟩ = some (.int .i64 r.dn) := cell_to (p3) hb2; have q4 : w2.cell? ⟨w.heap.size, 4, none⟩ = some (.int .i64 r.proto) := cell_to (p4) hb2; have q5 : w2.cell? ⟨w.heap.size, 5, none⟩ = some (.int .i64 r.lo) := cell_to (p5) hb2; have q6 : w2.cell? ⟨w.heap.size, 6, none⟩ = some (.int .i64 r.hi) := cell_to (p6) hb2; have qk0 : w2.cell? ⟨w.heap.size + 1, 0, none⟩ = some (.int .i64 k.src) := cell_to (pk0) hb2; have qk1 : w2.cell? ⟨w.heap.size + 1, 1, none⟩ = some (.int .i64 k.dst) := cell_to (pk1) hb2; have qk2 : w2.cell? ⟨w.heap.size + 1, 2, none⟩ = some (.int .i64 k.proto) := cell_to (pk2) hb2; have qk3 : w2.cell? ⟨w.heap.size + 1, 3, none⟩ = some (.int .i64 k.port) := cell_to (pk3) hb2; have hz2 := hb_lt hb2)
    | (go_at_call 105; refine (prtFits_any ⟨r.proto, r.lo, r.hi⟩ k _).mono ?_; rintro e w3 ⟨rfl, hb3⟩))
  go_ret
  exact ⟨by simp [rowFits, hq1, hq2, hq3], (by repeat (first | exact Below.refl _ _ | assumption | apply Ext.alloc | apply Ext.drewN | apply Ext.drew | refine Ext.trans ?_ (by assumption)))⟩

theorem decClo (r : DRow) (k : DPkt) (kb : Nat) (w : World) (hr : rowOk r = true) (hk : pktOk k = true) (c0 : w.cell? ⟨kb, 0, none⟩ = some (.int .i64 k.src)) (c1 : w.cell? ⟨kb, 1, none⟩ = some (.int .i64 k.dst)) (c2 : w.cell? ⟨kb, 2, none⟩ = some (.int .i64 k.proto)) (c3 : w.cell? ⟨kb, 3, none⟩ = some (.int .i64 k.port)) :
    Calls Tryz.prog 66 #[.agg #[.int .i64 r.sb, .int .i64 r.sn, .int .i64 r.db, .int .i64 r.dn, .int .i64 r.proto, .int .i64 r.lo, .int .i64 r.hi, .bool r.allow], .pointer (some ⟨kb, 0, none⟩)] w
      fun e w' => e = .returned (.bool (rowFits k r)) ∧ Below w.heap.size w w' := by
  have l1 := cell_lt c0
  have HR := hid hr
  have HK := hid hk
  clear hr hk
  go_enter Tryz.func66, Tryz.ntmps66
  go_wp2_with (go_at_call 67; refine (fits_any r k _ HR.out HK.out).mono ?_; rintro e w1 ⟨rfl, hb1⟩; obtain ⟨hc1, hf1⟩ := bcell hb1; have hz1 := hb_lt hb1)
  go_ret
  exact ⟨rfl, (by repeat (first | exact Below.refl _ _ | assumption | apply Ext.alloc | apply Ext.drewN | apply Ext.drew | refine Ext.trans ?_ (by assumption)))⟩

theorem indexFunc_any (f : DRow → Bool) (k0 : Value) (a : Option Addr) (cap n : Nat) (l : List DRow) (w : World) (hl : rdRows w.heap.size w a l) (hn : l.findIdx? f = some n)
    (hK : ∀ (x : DRow) (w1 : World), x ∈ l → Below w.heap.size w w1 → Calls Tryz.prog 66 #[.agg #[.int .i64 x.sb, .int .i64 x.sn, .int .i64 x.db, .int .i64 x.dn, .int .i64 x.proto, .int .i64 x.lo, .int .i64 x.hi, .bool x.allow], k0] w1 fun e w2 => e = .returned (.bool (f x)) ∧ Below w1.heap.size w1 w2) :
    Calls Tryz.prog 65 #[.slice a l.length cap, .func (.func 66) #[] #[k0]] w fun e w' => e = .returned (.int .i64 n) ∧ Below w.heap.size w w' := by
  have HK := hid hK
  obtain ⟨hlen, hl⟩ := hl
  have HL := hid hl
  obtain ⟨hnl, hnf, hnb⟩ := List.findIdx?_eq_some_iff_getElem.1 hn
  have HNF := hid hnf
  have HNB := hid hnb
  clear hl hK hn hnf hnb
  go_enter Tryz.func65, Tryz.ntmps65
  go_wp2
  go_loopw [8] (fun i wr => ∃ k : Nat, k ≤ n ∧ i = .int .i64 k ∧ Below w.heap.size w wr) (fun i _ => l.length - (intOf i).toNat)
  case atStart => exact ⟨0, Nat.zero_le _, rfl, Below.refl _ _⟩
  case round =>
    obtain ⟨k, hk, rfl, hbw⟩ := hrel
    have hlt : k < l.length := by omega
    obtain ⟨hc, hf⟩ := bcell hbw
    obtain ⟨b, off, rfl, hb, c0, c1, c2, c3, c4, c5, c6, c7⟩ := HL.out k l[k] (by simp)
    rcases Nat.lt_or_ge k n with h | h
    · have hx : f l[k] = false := by simpa using HNB.out k h
      have HXM := hid (show l[k] ∈ l from List.getElem_mem _)
      generalize l[k] = x at hx HXM c0 c1 c2 c3 c4 c5 c6 c7
      go_wp2_with (go_at_call 66; refine (HK.out x _ HXM.out (by repeat (first | exact Below.refl _ _ | assumption | apply Ext.alloc | apply Ext.drewN | apply Ext.drew | refine Ext.trans ?_ (by assumption)))).mono ?_; rw [hx]; rintro e w1 ⟨rfl, hb1⟩)
      exact ⟨⟨k + 1, by omega, by go_num, (by repeat (first | exact Below.refl _ _ | assumption | apply Ext.alloc | apply Ext.drewN | apply Ext.drew | refine Ext.trans ?_ (by assumption)))⟩, by simp [intOf]; omega⟩
    · have e : k = n := by omega
      subst e
      have hx : f l[k] = true := HNF.out
      have HXM := hid (show l[k] ∈ l from List.getElem_mem _)
      generalize l[k] = x at hx HXM c0 c1 c2 c3 c4 c5 c6 c7
      go_wp2_with (go_at_call 66; refine (HK.out x _ HXM.out (by repeat (first | exact Below.refl _ _ | assumption | apply Ext.alloc | apply Ext.drewN | apply Ext.drew | refine Ext.trans ?_ (by assumption)))).mono ?_; rw [hx]; rintro e w1 ⟨rfl, hb1⟩)
      go_ret
      exact ⟨rfl, (by repeat (first | exact Below.refl _ _ | assumption | apply Ext.alloc | apply Ext.drewN | apply Ext.drew | refine Ext.trans ?_ (by assumption)))⟩

theorem decides_any (l : List DRow) (k : DPkt) (n : Nat) (r : DRow) (a : Option Addr) (cap : Nat) (w : World) (hl : rdRows w.heap.size w a l) (hok : ∀ x ∈ l, rowOk x = true) (hk : pktOk k = true) (hn : l.findIdx? (rowFits k) = some n) (hr : l[n]? = some r) :
    Calls Tryz.prog 37 #[.slice a l.length cap, .agg #[.int .i64 k.src, .int .i64 k.dst, .int .i64 k.proto, .int .i64 k.port]] w fun e w' => e = .returned (.tuple #[.bool r.allow, .int .i64 n]) ∧ Below w.heap.size w w' := by
  have HL := hid hl
  have HOK := hid hok
  have HK := hid hk
  have HN := hid hn
  have hlen := hl.1
  obtain ⟨b, off, rfl, hb, c0, c1, c2, c3, c4, c5, c6, c7⟩ := hl.2 n r hr
  have hnl : n < l.length := (List.getElem?_eq_some_iff.1 hr).1
  have i0 : (0 : Int) ≤ (n : Int) := by omega
  have i1 : (n : Int) < (l.length : Int) := by omega
  have hmf := mkFunc
  clear hl hok hk hn hr c0 c1 c2 c3 c4 c5 c6
  go_enter Tryz.func37, Tryz.ntmps37
  go_wp2_with (go_at_call 65; go_must (refine (indexFunc_any (rowFits k) _ _ _ n _ _ (rdRows.to HL.out (by repeat (first | exact Below.refl _ _ | assumption | apply Ext.alloc | apply Ext.drewN | apply Ext.drew | refine Ext.trans ?_ (by assumption)))) HN.out (fun x w2 hx hb2 => decClo x k _ w2 (HOK.out x hx) HK.out (cell_to (by simp [go_sem]) hb2) (cell_to (by simp [go_sem]) hb2) (cell_to (by simp [go_sem]) hb2) (cell_to (by simp [go_sem]) hb2))).mono ?_); rintro e w1 ⟨rfl, hb1⟩; have d7 := cell_to c7 (show Below w.heap.size w w1 from (by repeat (first | exact Below.refl _ _ | assumption | apply Ext.alloc | apply Ext.drewN | apply Ext.drew | refine Ext.trans ?_ (by assumption)))))
  go_ret2
  exact ⟨rfl, (by repeat (first | exact Below.refl _ _ | assumption | apply Ext.alloc | apply Ext.drewN | apply Ext.drew | refine Ext.trans ?_ (by assumption)))⟩

end Go.Proofs.YtmkjlhplgcifiaaGreat
namespace Go.Proofs.YtmkjlhplgcifiaaGreat
open Go.ChangeShapes Go.WideShapes Go.ChangeAt Go.RowKit
attribute [local simp] World.cell?_grow
attribute [local go_sem] World.cell?_grow
attribute [local simp] World.cell?_alloc_there
attribute [local go_sem] World.cell?_alloc_there
attribute [local go_sem] eqg_blk std_blk eqg_pod std_pod eqg_sel std_sel eqg_prt std_prt
attribute [local go_sem ↓] eql_blk eql_sel neq_sel eql_prt eql_pod
attribute [local go_sem ↓] met_in1 met_in2 met_re1 met_re2
attribute [local go_sem ↓] met_has1 met_has2
attribute [local go_sem ↓] met_bl1 met_bl2
attribute [local go_sem] eqg_row std_row
attribute [local go_sem ↓] neq_row
set_option linter.unusedVariables false
set_option linter.unusedSimpArgs false

def encPl (p : Int × Int) : List Value := [.int .i64 p.1, .int .i64 p.2]
def ePl (_B : Nat) (w : World) (b o : Nat) (x : Int × Int) : Prop := w.cell? ⟨b, o, none⟩ = some (.int .i64 x.1) ∧ w.cell? ⟨b, o + 1, none⟩ = some (.int .i64 x.2)
abbrev rdPls (B : Nat) (w : World) (a : Option Addr) (l : List (Int × Int)) : Prop := RdSl B w 2 16 ePl a l
theorem rdPls.to {w w' : World} {a : Option Addr} {l : List (Int × Int)} (h : rdPls w.heap.size w a l) (hw : Below w.heap.size w w') : rdPls w'.heap.size w' a l :=
  RdSl.ext h hw.size fun b o x hb h => by unfold ePl at *; simp only [hw.cell (p := ⟨b, _, none⟩) hb]; exact h
theorem info_pl : (Tryz.prog.info? 99).map (fun i => (i.zero, i.size, i.bytes)) = some (some (.agg #[.int .i64 0, .int .i64 0]), 2, 16) := by kernel_rfl
theorem plist_step : ∀ k : Fin 4, plist.take (2 * (k.val + 1)) = plist.take (2 * k.val) ++ [((k.val : Int), 1), ((k.val : Int), 2)] := by decide
theorem plist_len (k : Nat) (h : k ≤ 4) : (plist.take (2 * k)).length = 2 * k := by rw [List.length_take, show plist.length = 8 from rfl]; omega
theorem own_snoc2 {α : Type} {w : World} {base : Nat} {e : TypeId} {k : Nat} {v : Value} {l : List α} {x y : α} {enc : α → List Value} (h : w.ownsRow base e k v (l.length + 2) (l.flatMap enc ++ (enc x ++ enc y))) : w.ownsRow base e k v (l ++ [x, y]).length ((l ++ [x, y]).flatMap enc) := by
  simpa using h

set_option maxRecDepth 100000 in
theorem places_any (w : World) : Calls Tryz.prog 39 #[] w fun e w' => (∃ a c, e = .returned (.slice a plist.length c) ∧ rdPls w'.heap.size w' a plist) ∧ Below w.heap.size w w' := by
  obtain ⟨i0, hi, iz0, iz1, iz2⟩ := info_parts info_pl
  go_enter Tryz.func39, Tryz.ntmps39
  go_wp2
  go_loopw [1, 3] (fun kv i wr => ∃ k : Nat, k ≤ 4 ∧ i = .int .i64 k ∧ wr.ownsRow w.heap.size 99 2 kv (plist.take (2 * k)).length ((plist.take (2 * k)).flatMap encPl) ∧ Below w.heap.size w wr) (fun _ i _ => 4 - (intOf i).toNat)
  case atStart => exact ⟨0, Nat.zero_le _, rfl, World.ownsRow_nil _ _ _ _, Below.refl _ _⟩
  case round =>
    obtain ⟨k, hk, rfl, hown, hbw⟩ := hrel
    have HO := hid hown
    have hpl := plist_len k hk
    clear hown
    by_cases hlt : k < 4
    · have HS := hid (plist_step ⟨k, hlt⟩)
      have hk1 : (k : Int) < 4 := by omega
      go_wp2_with (at_builtin; refine wpList_append_own _ rfl _ _ 105 rfl w.heap.size 99 i0 _ 2 16 Tryz.underlying105 hi iz0 iz1 iz2 rfl (by decide) _ _ _ rfl (HO.out.alloc _) ⟨wr.heap.size, 0, none⟩ 2 2 [.int .i64 k, .int .i64 1, .int .i64 k, .int .i64 2] rfl rfl (cell_new_list _ [.int .i64 k, .int .i64 1, .int .i64 k, .int .i64 2] _) (fun u hu => by simp at hu; rcases hu with rfl | rfl | rfl | rfl <;> rfl) (by unfold maxLen; omega) (by omega) (by have := hbw.size; simp; omega) ?_; intro v' w3 hown' hg3 _)
      exact ⟨⟨k + 1, by omega, by go_num, by rw [HS.out]; exact own_snoc2 (enc := encPl) (x := ((k : Int), 1)) (y := ((k : Int), 2)) hown', own_below (hbw.alloc hbw.size _) (by have := hbw.size; simp; omega) (HO.out.alloc _) hg3⟩, by simp [intOf]; omega⟩
    · have e : k = 4 := by omega
      subst e
      have ho := HO.out
      rw [show plist.take (2 * 4) = plist from rfl] at ho
      obtain ⟨a, c, rfl, _, hr⟩ := own_rd (α := Int × Int) (k := 2) (l := plist) (enc := encPl) (E := ePl) (bytes := 16) (fun _ => rfl) ho (by decide) (by decide) fun b o x _ _ hc => ⟨hc 0 _ rfl, hc 1 _ rfl⟩
      have HR := hid hr
      clear ho hr
      go_wp2
      go_ret
      exact ⟨⟨a, c, rfl, HR.out⟩, hbw⟩
end Go.Proofs.YtmkjlhplgcifiaaGreat
namespace Go.Proofs.YtmkjlhplgcifiaaGreat
open Go.ChangeShapes Go.WideShapes Go.ChangeAt Go.RowKit
attribute [local simp] World.cell?_grow
attribute [local go_sem] World.cell?_grow
attribute [local simp] World.cell?_alloc_there
attribute [local go_sem] World.cell?_alloc_there
attribute [local go_sem] eqg_blk std_blk eqg_pod std_pod eqg_sel std_sel eqg_prt std_prt
attribute [local go_sem ↓] eql_blk eql_sel neq_sel eql_prt eql_pod
attribute [local go_sem ↓] met_in1 met_in2 met_re1 met_re2
attribute [local go_sem ↓] met_has1 met_has2
attribute [local go_sem ↓] met_bl1 met_bl2
attribute [local go_sem] eqg_row std_row
attribute [local go_sem ↓] neq_row
set_option linter.unusedVariables false
set_option linter.unusedSimpArgs false

set_option maxRecDepth 100000 in
theorem clone_any (l : List DRow) (a : Addr) (cap : Nat) (w : World) (hl : rdRows w.heap.size w (some a) l) :
    Calls Tryz.prog 35 #[.slice (some a) l.length cap] w fun e w' => (∃ v, e = .returned v ∧ w'.ownsRow w.heap.size 49 8 v l.length (l.flatMap encRow)) ∧ Below w.heap.size w w' := by
  have HL := hid hl
  have hlen := hl.1
  clear hl
  obtain ⟨i0, hi, iz0, iz1, iz2⟩ := info_parts info_row
  have hq : ∀ w, (binOp .eql 40 (.slice (some a) l.length cap) (.slice none 0 0)).run Tryz.prog w = .ok (.bool false) w := fun w => by
    simp only [binOp]
    simp [Op.equal, Op.maxDepth, Lib.run_equalIn_slice_nil w 9999 _ _ (some a) l.length cap 0 0 Tryz.underlying40]
  go_enter Tryz.func35, Tryz.ntmps35
  go_wp2_with (at_builtin; refine wpList_append_list _ rfl _ _ 40 rfl w.heap.size 49 i0 _ 8 64 Tryz.underlying40 hi iz0 iz1 iz2 rfl (by decide) _ 0 [] rfl (own_built w [] w.heap.size _ 8 0 (Nat.le_refl _) rfl (by unfold maxLen; omega)) (some a) _ cap (l.flatMap encRow) rfl (oflat_len (k := 8) encRow_len _) (news_of (k := 8) encRow_len (by decide) (rdRows.to HL.out (by repeat (first | exact Below.refl _ _ | assumption | apply Ext.alloc | apply Ext.drewN | apply Ext.drew | refine Ext.trans ?_ (by assumption)))) (fun _ _ _ => eRow_cells)) (encRows_one _) (by unfold maxLen; omega) (by omega) (by simp) ?_; intro v' w3 hown' hg3)
  go_ret
  refine ⟨⟨v', rfl, by simpa using hown'⟩, ?_⟩
  exact own_below (show Below w.heap.size w (w.alloc (.cells #[] 49)) from (by repeat (first | exact Below.refl _ _ | assumption | apply Ext.alloc | apply Ext.drewN | apply Ext.drew | refine Ext.trans ?_ (by assumption)))) (by simp) (own_built w [] w.heap.size _ 8 0 (Nat.le_refl _) rfl (by unfold maxLen; omega)) hg3
end Go.Proofs.YtmkjlhplgcifiaaGreat
namespace Go.Proofs.YtmkjlhplgcifiaaGreat
open Go.ChangeShapes Go.WideShapes Go.ChangeAt Go.RowKit
attribute [local simp] World.cell?_grow
attribute [local go_sem] World.cell?_grow
attribute [local simp] World.cell?_alloc_there
attribute [local go_sem] World.cell?_alloc_there
attribute [local go_sem] eqg_blk std_blk eqg_pod std_pod eqg_sel std_sel eqg_prt std_prt
attribute [local go_sem ↓] eql_blk eql_sel neq_sel eql_prt eql_pod
attribute [local go_sem ↓] met_in1 met_in2 met_re1 met_re2
attribute [local go_sem ↓] met_has1 met_has2
set_option linter.unusedVariables false
set_option linter.unusedSimpArgs false

theorem firstBad_none' {good : Nat → Bool} {n : Nat} (h : firstBad good n = none) : ∀ j, j < n → good j = true := by
  unfold firstBad at h
  rw [List.find?_eq_none] at h
  intro j hj
  have := h j (List.mem_range.2 hj)
  simpa using this
theorem right_zero {c : DClu} (h : (right c).1 = 0) : cluOk c := by
  unfold right at h
  split at h
  · cases h
  · cases h1 : firstBad (podGood c.pods) c.pods.length with
    | some i => rw [h1] at h; cases h
    | none =>
      rw [h1] at h
      cases h2 : firstBad (polGood c.pols) c.pols.length with
      | some i => simp only [h2] at h; cases h
      | none =>
        have g1 := firstBad_none' h1
        have g2 := firstBad_none' h2
        refine ⟨⟨fun p hp => ?_, ?_⟩, fun q hq => ?_⟩
        · obtain ⟨j, hj, rfl⟩ := List.getElem_of_mem hp
          have := g1 j hj
          rw [podGood_some (List.getElem?_eq_getElem hj), Bool.and_eq_true] at this
          exact this.1
        · rw [List.pairwise_iff_getElem]
          intro i j hi hj hij he
          have := g1 j hj
          rw [podGood, List.getElem?_eq_getElem hj] at this
          simp only [Bool.and_eq_true, List.all_eq_true] at this
          have h3 := this.2 c.pods[i] (List.mem_take_iff_getElem.2 ⟨i, by omega, rfl⟩)
          simp [he] at h3
        · obtain ⟨j, hj, rfl⟩ := List.getElem_of_mem hq
          have := g2 j hj
          rwa [polGood_some (List.getElem?_eq_getElem hj)] at this

set_option maxHeartbeats 4000000 in
theorem allowed_any (c : DClu) (k : DPkt) (pa qa : Option Addr) (pc qc : Nat) (w : World) (hp : rdPods w.heap.size w pa c.pods) (hq : rdPols w.heap.size w qa c.pols) (hpc : c.pods.length ≤ pc) :
    Calls Tryz.prog 32 #[.agg #[.slice pa c.pods.length pc, .slice qa c.pols.length qc], .agg #[.int .i64 k.src, .int .i64 k.dst, .int .i64 k.proto, .int .i64 k.port]] w
      fun e w' => e = .returned (.tuple #[.bool (allowed c k).1, .int .i64 (allowed c k).2]) ∧ Below w.heap.size w w' := by
  have HP := hid hp
  have HQ := hid hq
  clear hp hq
  by_cases h0 : (right c).1 = 0
  · have HC := hid (right_zero h0)
    have HE := hid h0
    cases hk : pktOk k
    · have HF := hid (show allowed c k = (false, 4) by rw [allowed, if_neg (by simp [h0]), if_pos hk])
      have HK := hid hk
      clear h0
      go_enter Tryz.func32, Tryz.ntmps32
      go_wp2_with (first
        | (go_at_call 56; refine (right_any c _ _ _ _ _ (rdPods.to HP.out (by repeat (first | exact Below.refl _ _ | assumption | apply Ext.alloc | apply Ext.drewN | apply Ext.drew | refine Ext.trans ?_ (by assumption)))) (rdPols.to HQ.out (by repeat (first | exact Below.refl _ _ | assumption | apply Ext.alloc | apply Ext.drewN | apply Ext.drew | refine Ext.trans ?_ (by assumption)))) hpc).mono ?_; rw [HE.out]; rintro e w1 ⟨rfl, hb1⟩; obtain ⟨hc1, hf1⟩ := bcell hb1; have hz1 := hb_lt hb1; have ca0 : w1.cell? ⟨w.heap.size, 0, none⟩ = some (.slice pa c.pods.length pc) := cell_to (by simp [go_sem]) hb1; have ca1 : w1.cell? ⟨w.heap.size, 1, none⟩ = some (.slice qa c.pols.length qc) := cell_to (by simp [go_sem]) hb1; have ca2 : w1.cell? ⟨w.heap.size + 1, 0, none⟩ = some (.int .i64 k.src) := cell_to (by simp [go_sem]) hb1; have ca3 : w1.cell? ⟨w.heap.size + 1, 1, none⟩ = some (.int .i64 k.dst) := cell_to (by simp [go_sem]) hb1; have ca4 : w1.cell? ⟨w.heap.size + 1, 2, none⟩ = some (.int .i64 k.proto) := cell_to (by simp [go_sem]) hb1; have ca5 : w1.cell? ⟨w.heap.size + 1, 3, none⟩ = some (.int .i64 k.port) := cell_to (by simp [go_sem]) hb1)
        | (go_at_call 36; refine (pktRight_any k _).mono ?_; rw [HK.out]; rintro e w2 ⟨rfl, hb2⟩; obtain ⟨hc2, hf2⟩ := bcell hb2; have hz2 := hb_lt hb2; have cb0 := cell_to ca0 hb2; have cb1 := cell_to ca1 hb2; have cb2 := cell_to ca2 hb2; have cb3 := cell_to ca3 hb2; have cb4 := cell_to ca4 hb2; have cb5 := cell_to ca5 hb2))
      go_ret2
      exact ⟨by rw [HF.out]; rfl, (by repeat (first | exact Below.refl _ _ | assumption | apply Ext.alloc | apply Ext.drewN | apply Ext.drew | refine Ext.trans ?_ (by assumption)))⟩
    · have HK := hid hk
      cases hm : may c 1 k k.src k.dst
      · have HF := hid (show allowed c k = (false, 0) by rw [allowed, if_neg (by simp [h0]), if_neg (by simp [hk]), hm]; rfl)
        clear h0
        go_enter Tryz.func32, Tryz.ntmps32
        go_wp2_with (first
          | (go_at_call 56; refine (right_any c _ _ _ _ _ (rdPods.to HP.out (by repeat (first | exact Below.refl _ _ | assumption | apply Ext.alloc | apply Ext.drewN | apply Ext.drew | refine Ext.trans ?_ (by assumption)))) (rdPols.to HQ.out (by repeat (first | exact Below.refl _ _ | assumption | apply Ext.alloc | apply Ext.drewN | apply Ext.drew | refine Ext.trans ?_ (by assumption)))) hpc).mono ?_; rw [HE.out]; rintro e w1 ⟨rfl, hb1⟩; obtain ⟨hc1, hf1⟩ := bcell hb1; have hz1 := hb_lt hb1; have ca0 : w1.cell? ⟨w.heap.size, 0, none⟩ = some (.slice pa c.pods.length pc) := cell_to (by simp [go_sem]) hb1; have ca1 : w1.cell? ⟨w.heap.size, 1, none⟩ = some (.slice qa c.pols.length qc) := cell_to (by simp [go_sem]) hb1; have ca2 : w1.cell? ⟨w.heap.size + 1, 0, none⟩ = some (.int .i64 k.src) := cell_to (by simp [go_sem]) hb1; have ca3 : w1.cell? ⟨w.heap.size + 1, 1, none⟩ = some (.int .i64 k.dst) := cell_to (by simp [go_sem]) hb1; have ca4 : w1.cell? ⟨w.heap.size + 1, 2, none⟩ = some (.int .i64 k.proto) := cell_to (by simp [go_sem]) hb1; have ca5 : w1.cell? ⟨w.heap.size + 1, 3, none⟩ = some (.int .i64 k.port) := cell_to (by simp [go_sem]) hb1)
          | (go_at_call 36; refine (pktRight_any k _).mono ?_; rw [HK.out]; rintro e w2 ⟨rfl, hb2⟩; obtain ⟨hc2, hf2⟩ := bcell hb2; have hz2 := hb_lt hb2; have cb0 := cell_to ca0 hb2; have cb1 := cell_to ca1 hb2; have cb2 := cell_to ca2 hb2; have cb3 := cell_to ca3 hb2; have cb4 := cell_to ca4 hb2; have cb5 := cell_to ca5 hb2)
          | (go_at_call 57; refine (mayGo_out c k _ _ _ _ _ (rdPods.to HP.out (by repeat (first | exact Below.refl _ _ | assumption | apply Ext.alloc | apply Ext.drewN | apply Ext.drew | refine Ext.trans ?_ (by assumption)))) (rdPols.to HQ.out (by repeat (first | exact Below.refl _ _ | assumption | apply Ext.alloc | apply Ext.drewN | apply Ext.drew | refine Ext.trans ?_ (by assumption)))) HC.out HK.out).mono ?_; rintro e w3 ⟨rfl, hb3⟩; obtain ⟨hc3, hf3⟩ := bcell hb3; have hz3 := hb_lt hb3; have cc0 := cell_to cb0 hb3; have cc1 := cell_to cb1 hb3; have cc2 := cell_to cb2 hb3; have cc3 := cell_to cb3 hb3; have cc4 := cell_to cb4 hb3; have cc5 := cell_to cb5 hb3))
        go_ret2
        exact ⟨by rw [HF.out]; rfl, (by repeat (first | exact Below.refl _ _ | assumption | apply Ext.alloc | apply Ext.drewN | apply Ext.drew | refine Ext.trans ?_ (by assumption)))⟩
      · have HF := hid (show allowed c k = (may c 2 k k.dst k.src, 0) by rw [allowed, if_neg (by simp [h0]), if_neg (by simp [hk]), hm]; rfl)
        clear h0
        go_enter Tryz.func32, Tryz.ntmps32
        go_wp2_with (first
          | (go_at_call 56; refine (right_any c _ _ _ _ _ (rdPods.to HP.out (by repeat (first | exact Below.refl _ _ | assumption | apply Ext.alloc | apply Ext.drewN | apply Ext.drew | refine Ext.trans ?_ (by assumption)))) (rdPols.to HQ.out (by repeat (first | exact Below.refl _ _ | assumption | apply Ext.alloc | apply Ext.drewN | apply Ext.drew | refine Ext.trans ?_ (by assumption)))) hpc).mono ?_; rw [HE.out]; rintro e w1 ⟨rfl, hb1⟩; obtain ⟨hc1, hf1⟩ := bcell hb1; have hz1 := hb_lt hb1; have ca0 : w1.cell? ⟨w.heap.size, 0, none⟩ = some (.slice pa c.pods.length pc) := cell_to (by simp [go_sem]) hb1; have ca1 : w1.cell? ⟨w.heap.size, 1, none⟩ = some (.slice qa c.pols.length qc) := cell_to (by simp [go_sem]) hb1; have ca2 : w1.cell? ⟨w.heap.size + 1, 0, none⟩ = some (.int .i64 k.src) := cell_to (by simp [go_sem]) hb1; have ca3 : w1.cell? ⟨w.heap.size + 1, 1, none⟩ = some (.int .i64 k.dst) := cell_to (by simp [go_sem]) hb1; have ca4 : w1.cell? ⟨w.heap.size + 1, 2, none⟩ = some (.int .i64 k.proto) := cell_to (by simp [go_sem]) hb1; have ca5 : w1.cell? ⟨w.heap.size + 1, 3, none⟩ = some (.int .i64 k.port) := cell_to (by simp [go_sem]) hb1)
          | (go_at_call 36; refine (pktRight_any k _).mono ?_; rw [HK.out]; rintro e w2 ⟨rfl, hb2⟩; obtain ⟨hc2, hf2⟩ := bcell hb2; have hz2 := hb_lt hb2; have cb0 := cell_to ca0 hb2; have cb1 := cell_to ca1 hb2; have cb2 := cell_to ca2 hb2; have cb3 := cell_to ca3 hb2; have cb4 := cell_to ca4 hb2; have cb5 := cell_to ca5 hb2))
        refine (mayGo_out c k _ _ _ _ _ (rdPods.to HP.out (by repeat (first | exact Below.refl _ _ | assumption | apply Ext.alloc | apply Ext.drewN | apply Ext.drew | refine Ext.trans ?_ (by assumption)))) (rdPols.to HQ.out (by repeat (first | exact Below.refl _ _ | assumption | apply Ext.alloc | apply Ext.drewN | apply Ext.drew | refine Ext.trans ?_ (by assumption)))) HC.out HK.out).mono ?_
        rintro e w3 ⟨rfl, hb3⟩; obtain ⟨hc3, hf3⟩ := bcell hb3; have hz3 := hb_lt hb3; have cc0 := cell_to cb0 hb3; have cc1 := cell_to cb1 hb3; have cc2 := cell_to cb2 hb3; have cc3 := cell_to cb3 hb3; have cc4 := cell_to cb4 hb3; have cc5 := cell_to cb5 hb3
        go_wp2_with fail
        refine (mayGo_in c k _ _ _ _ _ (rdPods.to HP.out (by repeat (first | exact Below.refl _ _ | assumption | apply Ext.alloc | apply Ext.drewN | apply Ext.drew | refine Ext.trans ?_ (by assumption)))) (rdPols.to HQ.out (by repeat (first | exact Below.refl _ _ | assumption | apply Ext.alloc | apply Ext.drewN | apply Ext.drew | refine Ext.trans ?_ (by assumption)))) HC.out HK.out).mono ?_
        rintro e w4 ⟨rfl, hb4⟩; obtain ⟨hc4, hf4⟩ := bcell hb4; have hz4 := hb_lt hb4
        go_wp2
        go_ret2
        exact ⟨by rw [HF.out]; rfl, (by repeat (first | exact Below.refl _ _ | assumption | apply Ext.alloc | apply Ext.drewN | apply Ext.drew | refine Ext.trans ?_ (by assumption)))⟩
  · have HF := hid (show allowed c k = (false, (right c).1) by rw [allowed, if_pos h0])
    have hn : ((right c).1 == 0) = false := by simp [h0]
    clear h0
    go_enter Tryz.func32, Tryz.ntmps32
    go_wp2_with (go_at_call 56; refine (right_any c _ _ _ _ _ (rdPods.to HP.out (by repeat (first | exact Below.refl _ _ | assumption | apply Ext.alloc | apply Ext.drewN | apply Ext.drew | refine Ext.trans ?_ (by assumption)))) (rdPols.to HQ.out (by repeat (first | exact Below.refl _ _ | assumption | apply Ext.alloc | apply Ext.drewN | apply Ext.drew | refine Ext.trans ?_ (by assumption)))) hpc).mono ?_; rintro e w1 ⟨rfl, hb1⟩; obtain ⟨hc1, hf1⟩ := bcell hb1; have hz1 := hb_lt hb1; have ca0 : w1.cell? ⟨w.heap.size, 0, none⟩ = some (.slice pa c.pods.length pc) := cell_to (by simp [go_sem]) hb1; have ca1 : w1.cell? ⟨w.heap.size, 1, none⟩ = some (.slice qa c.pols.length qc) := cell_to (by simp [go_sem]) hb1; have ca2 : w1.cell? ⟨w.heap.size + 1, 0, none⟩ = some (.int .i64 k.src) := cell_to (by simp [go_sem]) hb1; have ca3 : w1.cell? ⟨w.heap.size + 1, 1, none⟩ = some (.int .i64 k.dst) := cell_to (by simp [go_sem]) hb1; have ca4 : w1.cell? ⟨w.heap.size + 1, 2, none⟩ = some (.int .i64 k.proto) := cell_to (by simp [go_sem]) hb1; have ca5 : w1.cell? ⟨w.heap.size + 1, 3, none⟩ = some (.int .i64 k.port) := cell_to (by simp [go_sem]) hb1)
    go_ret2
    exact ⟨by rw [HF.out]; rfl, (by repeat (first | exact Below.refl _ _ | assumption | apply Ext.alloc | apply Ext.drewN | apply Ext.drew | refine Ext.trans ?_ (by assumption)))⟩
end Go.Proofs.YtmkjlhplgcifiaaGreat
