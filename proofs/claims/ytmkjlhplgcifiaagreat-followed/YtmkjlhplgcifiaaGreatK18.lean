/-
  Which row decides; the places; a copy of rows.
  The places, in their order.
  slices.Clone at rows: a list of its own with the same rows.
  slices.Clone at pods, ports and blocks: a list of its own with the same elements.
-/
import Derived.Test.YtmkjlhplgcifiaaGreatK16
import Derived.Test.YtmkjlhplgcifiaaGreatK17
import Derived.Test.YtmkjlhplgcifiaaGreatK13
import Derived.Test.YtmkjlhplgcifiaaGreatK08
import Derived.Test.YtmkjlhplgcifiaaGreatK05
namespace Go.Proofs.YtmkjlhplgcifiaaGreat
open Go.ChangeShapes Go.WideShapes Go.ChangeAt Go.RowKit
attribute [local simp] World.cell?_grow
attribute [local go_sem] World.cell?_grow
attribute [local simp] World.cell?_alloc_there
attribute [local go_sem] World.cell?_alloc_there
attribute [local go_sem] eqg_blk std_blk eqg_pod std_pod eqg_sel std_sel eqg_prt std_prt
attribute [local go_sem ↓] eql_blk eql_sel neq_sel eql_prt eql_pod
attribute [local go_sem ↓] met_in1 met_in2 met_re1 met_re2
attribute [local go_sem ↓] met_has1 met_has2
attribute [local go_sem ↓] met_bl1 met_bl2
attribute [local go_sem] eqg_row std_row
attribute [local go_sem ↓] neq_row
set_option linter.unusedVariables false
set_option linter.unusedSimpArgs false
def rowOk (r : DRow) : Bool := blkOk ⟨r.sb, r.sn⟩ && blkOk ⟨r.db, r.dn⟩ && prtOk ⟨r.proto, r.lo, r.hi⟩
def rowFits (k : DPkt) (r : DRow) : Bool := blkHas k.src ⟨r.sb, r.sn⟩ && blkHas k.dst ⟨r.db, r.dn⟩ && prtFits k ⟨r.proto, r.lo, r.hi⟩
theorem rowOk_true {r : DRow} : rowOk r = true ↔ blkOk ⟨r.sb, r.sn⟩ = true ∧ blkOk ⟨r.db, r.dn⟩ = true ∧ prtOk ⟨r.proto, r.lo, r.hi⟩ = true := by simp [rowOk, and_assoc]
theorem fits_any (r : DRow) (k : DPkt) (w : World) (hr : rowOk r = true) (hk : pktOk k = true) :
    Calls Tryz.prog 67 #[.agg #[.int .i64 r.sb, .int .i64 r.sn, .int .i64 r.db, .int .i64 r.dn, .int .i64 r.proto, .int .i64 r.lo, .int .i64 r.hi, .bool r.allow], .agg #[.int .i64 k.src, .int .i64 k.dst, .int .i64 k.proto, .int .i64 k.port]] w
      fun e w' => e = .returned (.bool (rowFits k r)) ∧ Below w.heap.size w w' := by
  have h1 := (rowOk_true.1 hr).1
  have h2 := (rowOk_true.1 hr).2.1
  have s1 := pktOk_src hk
  have s2 := pktOk_dst hk
  have HS := hid (And.intro h1 (And.intro h2 (And.intro s1 s2)))
  clear hr hk h1 h2 s1 s2
  have M1 := hid True.intro
  go_enter Tryz.func67, Tryz.ntmps67
  cases hq1 : blkHas k.src ⟨r.sb, r.sn⟩
  · go_wp2_with (first
      | (go_at_call 104; have m1 := M1.out; refine (blkHas_any ⟨r.sb, r.sn⟩ k.src _ HS.out.1 HS.out.2.2.1.1 HS.out.2.2.1.2).mono ?_; rintro e w1 ⟨rfl, hb1⟩; have p2 : w1.cell? ⟨w.heap.size, 2, none⟩ = some (.int .i64 r.db) := cell_to (by simp [go_sem]) hb1; have p3 : w1.cell? ⟨w.heap.size, 3, none⟩ = some (.int .i64 r.dn) := cell_to (by simp [go_sem]) hb1; have p4 : w1.cell? ⟨w.heap.size, 4, none⟩ = some (.int .i64 r.proto) := cell_to (by simp [go_sem]) hb1; have p5 : w1.cell? ⟨w.heap.size, 5, none⟩ = some (.int .i64 r.lo) := cell_to (by simp [go_sem]) hb1; have p6 : w1.cell? ⟨w.heap.size, 6, none⟩ = some (.int .i64 r.hi) := cell_to (by simp [go_sem]) hb1; have pk0 : w1.cell? ⟨w.heap.size + 1, 0, none⟩ = some (.int .i64 k.src) := cell_to (by simp [go_sem]) hb1; have pk1 : w1.cell? ⟨w.heap.size + 1, 1, none⟩ = some (.int .i64 k.dst) := cell_to (by simp [go_sem]) hb1; have pk2 : w1.cell? ⟨w.heap.size + 1, 2, none⟩ = some (.int .i64 k.proto) := cell_to (by simp [go_sem]) hb1; have pk3 : w1.cell? ⟨w.heap.size + 1, 3, none⟩ = some (.int .i64 k.port) := cell_to (by simp [go_sem]) hb1; have hz1 := hb_lt hb1; clear M1 m1)
      | (go_at_call 104; refine (blkHas_any ⟨r.db, r.dn⟩ k.dst _ HS.out.2.1 HS.out.2.2.2.1 HS.out.2.2.2.2).mono ?_; rintro e w2 ⟨rfl, hb2⟩; have q2 : w2.cell? ⟨w.heap.size, 2, none⟩ = some (.int .i64 r.db) := cell_to (p2) hb2; have q3 : w2.cell? ⟨w.heap.size, 3, none⟩ = some (.int .i64 r.dn) := cell_to (p3) hb2; have q4 : w2.cell? ⟨w.heap.size, 4, none⟩ = some (.int .i64 r.proto) := cell_to (p4) hb2; have q5 : w2.cell? ⟨w.heap.size, 5, none⟩ = some (.int .i64 r.lo) := cell_to (p5) hb2; have q6 : w2.cell? ⟨w.heap.size, 6, none⟩ = some (.int .i64 r.hi) := cell_to (p6) hb2; have qk0 : w2.cell? ⟨w.heap.size + 1, 0, none⟩ = some (.int .i64 k.src) := cell_to (pk0) hb2; have qk1 : w2.cell? ⟨w.heap.size + 1, 1, none⟩ = some (.int .i64 k.dst) := cell_to (pk1) hb2; have qk2 : w2.cell? ⟨w.heap.size + 1, 2, none⟩ = some (.int .i64 k.proto) := cell_to (pk2) hb2; have qk3 : w2.cell? ⟨w.heap.size + 1, 3, none⟩ = some (.int .i64 k.port) := cell_to (pk3) hb2; have hz2 := hb_lt hb2)
      | (go_at_call 105; refine (prtFits_any ⟨r.proto, r.lo, r.hi⟩ k _).mono ?_; rintro e w3 ⟨rfl, hb3⟩))
    go_ret
    exact ⟨by simp [rowFits, hq1], (by repeat (first | exact Below.refl _ _ | assumption | apply Ext.alloc | apply Ext.drewN | apply Ext.drew | refine Ext.trans ?_ (by assumption)))⟩
  cases hq2 : blkHas k.dst ⟨r.db, r.dn⟩
  · go_wp2_with (first
      | (go_at_call 104; have m1 := M1.out; refine (blkHas_any ⟨r.sb, r.sn⟩ k.src _ HS.out.1 HS.out.2.2.1.1 HS.out.2.2.1.2).mono ?_; rintro e w1 ⟨rfl, hb1⟩; have p2 : w1.cell? ⟨w.heap.size, 2, none⟩ = some (.int .i64 r.db) := cell_to (by simp [go_sem]) hb1; have p3 : w1.cell? ⟨w.heap.size, 3, none⟩ = some (.int .i64 r.dn) := cell_to (by simp [go_sem]) hb1; have p4 : w1.cell? ⟨w.heap.size, 4, none⟩ = some (.int .i64 r.proto) := cell_to (by simp [go_sem]) hb1; have p5 : w1.cell? ⟨w.heap.size, 5, none⟩ = some (.int .i64 r.lo) := cell_to (by simp [go_sem]) hb1; have p6 : w1.cell? ⟨w.heap.size, 6, none⟩ = some (.int .i64 r.hi) := cell_to (by simp [go_sem]) hb1; have pk0 : w1.cell? ⟨w.heap.size + 1, 0, none⟩ = some (.int .i64 k.src) := cell_to (by simp [go_sem]) hb1; have pk1 : w1.cell? ⟨w.heap.size + 1, 1, none⟩ = some (.int .i64 k.dst) := cell_to (by simp [go_sem]) hb1; have pk2 : w1.cell? ⟨w.heap.size + 1, 2, none⟩ = some (.int .i64 k.proto) := cell_to (by simp [go_sem]) hb1; have pk3 : w1.cell? ⟨w.heap.size + 1, 3, none⟩ = some (.int .i64 k.port) := cell_to (by simp [go_sem]) hb1; have hz1 := hb_lt hb1; clear M1 m1)
      | (go_at_call 104; refine (blkHas_any ⟨r.db, r.dn⟩ k.dst _ HS.out.2.1 HS.out.2.2.2.1 HS.out.2.2.2.2).mono ?_; rintro e w2 ⟨rfl, hb2⟩; have q2 : w2.cell? ⟨w.heap.size, 2, none⟩ = some (.int .i64 r.db) := cell_to (p2) hb2; have q3 : w2.cell? ⟨w.heap.size, 3, none⟩ = some (.int .i64 r.dn) := cell_to (p3) hb2; have q4 : w2.cell? ⟨w.heap.size, 4, none⟩ = some (.int .i64 r.proto) := cell_to (p4) hb2; have q5 : w2.cell? ⟨w.heap.size, 5, none⟩ = some (.int .i64 r.lo) := cell_to (p5) hb2; have q6 : w2.cell? ⟨w.heap.size, 6, none⟩ = some (.int .i64 r.hi) := cell_to (p6) hb2; have qk0 : w2.cell? ⟨w.heap.size + 1, 0, none⟩ = some (.int .i64 k.src) := cell_to (pk0) hb2; have qk1 : w2.cell? ⟨w.heap.size + 1, 1, none⟩ = some (.int .i64 k.dst) := cell_to (pk1) hb2; have qk2 : w2.cell? ⟨w.heap.size + 1, 2, none⟩ = some (.int .i64 k.proto) := cell_to (pk2) hb2; have qk3 : w2.cell? ⟨w.heap.size + 1, 3, none⟩ = some (.int .i64 k.port) := cell_to (pk3) hb2; have hz2 := hb_lt hb2)
      | (go_at_call 105; refine (prtFits_any ⟨r.proto, r.lo, r.hi⟩ k _).mono ?_; rintro e w3 ⟨rfl, hb3⟩))
    go_ret
    exact ⟨by simp [rowFits, hq1, hq2], (by repeat (first | exact Below.refl _ _ | assumption | apply Ext.alloc | apply Ext.drewN | apply Ext.drew | refine Ext.trans ?_ (by assumption)))⟩
  cases hq3 : prtFits k ⟨r.proto, r.lo, r.hi⟩
  · go_wp2_with (first
      | (go_at_call 104; have m1 := M1.out; refine (blkHas_any ⟨r.sb, r.sn⟩ k.src _ HS.out.1 HS.out.2.2.1.1 HS.out.2.2.1.2).mono ?_; rintro e w1 ⟨rfl, hb1⟩; have p2 : w1.cell? ⟨w.heap.size, 2, none⟩ = some (.int .i64 r.db) := cell_to (by simp [go_sem]) hb1; have p3 : w1.cell? ⟨w.heap.size, 3, none⟩ = some (.int .i64 r.dn) := cell_to (by simp [go_sem]) hb1; have p4 : w1.cell? ⟨w.heap.size, 4, none⟩ = some (.int .i64 r.proto) := cell_to (by simp [go_sem]) hb1; have p5 : w1.cell? ⟨w.heap.size, 5, none⟩ = some (.int .i64 r.lo) := cell_to (by simp [go_sem]) hb1; have p6 : w1.cell? ⟨w.heap.size, 6, none⟩ = some (.int .i64 r.hi) := cell_to (by simp [go_sem]) hb1; have pk0 : w1.cell? ⟨w.heap.size + 1, 0, none⟩ = some (.int .i64 k.src) := cell_to (by simp [go_sem]) hb1; have pk1 : w1.cell? ⟨w.heap.size + 1, 1, none⟩ = some (.int .i64 k.dst) := cell_to (by simp [go_sem]) hb1; have pk2 : w1.cell? ⟨w.heap.size + 1, 2, none⟩ = some (.int .i64 k.proto) := cell_to (by simp [go_sem]) hb1; have pk3 : w1.cell? ⟨w.heap.size + 1, 3, none⟩ = some (.int .i64 k.port) := cell_to (by simp [go_sem]) hb1; have hz1 := hb_lt hb1; clear M1 m1)
      | (go_at_call 104; refine (blkHas_any ⟨r.db, r.dn⟩ k.dst _ HS.out.2.1 HS.out.2.2.2.1 HS.out.2.2.2.2).mono ?_; rintro e w2 ⟨rfl, hb2⟩; have q2 : w2.cell? ⟨w.heap.size, 2, none⟩ = some (.int .i64 r.db) := cell_to (p2) hb2; have q3 : w2.cell? ⟨w.heap.size, 3, none⟩ = some (.int .i64 r.dn) := cell_to (p3) hb2; have q4 : w2.cell? ⟨w.heap.size, 4, none⟩ = some (.int .i64 r.proto) := cell_to (p4) hb2; have q5 : w2.cell? ⟨w.heap.size, 5, none⟩ = some (.int .i64 r.lo) := cell_to (p5) hb2; have q6 : w2.cell? ⟨w.heap.size, 6, none⟩ = some (.int .i64 r.hi) := cell_to (p6) hb2; have qk0 : w2.cell? ⟨w.heap.size + 1, 0, none⟩ = some (.int .i64 k.src) := cell_to (pk0) hb2; have qk1 : w2.cell? ⟨w.heap.size + 1, 1, none⟩ = some (.int .i64 k.dst) := cell_to (pk1) hb2; have qk2 : w2.cell? ⟨w.heap.size + 1, 2, none⟩ = some (.int .i64 k.proto) := cell_to (pk2) hb2; have qk3 : w2.cell? ⟨w.heap.size + 1, 3, none⟩ = some (.int .i64 k.port) := cell_to (pk3) hb2; have hz2 := hb_lt hb2)
      | (go_at_call 105; refine (prtFits_any ⟨r.proto, r.lo, r.hi⟩ k _).mono ?_; rintro e w3 ⟨rfl, hb3⟩))
    go_ret
    exact ⟨by simp [rowFits, hq1, hq2, hq3], (by repeat (first | exact Below.refl _ _ | assumption | apply Ext.alloc | apply Ext.drewN | apply Ext.drew | refine Ext.trans ?_ (by assumption)))⟩
  go_wp2_with (first
    | (go_at_call 104; have m1 := M1.out; refine (blkHas_any ⟨r.sb, r.sn⟩ k.src _ HS.out.1 HS.out.2.2.1.1 HS.out.2.2.1.2).mono ?_; rintro e w1 ⟨rfl, hb1⟩; have p2 : w1.cell? ⟨w.heap.size, 2, none⟩ = some (.int .i64 r.db) := cell_to (by simp [go_sem]) hb1; have p3 : w1.cell? ⟨w.heap.size, 3, none⟩ = some (.int .i64 r.dn) := cell_to (by simp [go_sem]) hb1; have p4 : w1.cell? ⟨w.heap.size, 4, none⟩ = some (.int .i64 r.proto) := cell_to (by simp [go_sem]) hb1; have p5 : w1.cell? ⟨w.heap.size, 5, none⟩ = some (.int .i64 r.lo) := cell_to (by simp [go_sem]) hb1; have p6 : w1.cell? ⟨w.heap.size, 6, none⟩ = some (.int .i64 r.hi) := cell_to (by simp [go_sem]) hb1; have pk0 : w1.cell? ⟨w.heap.size + 1, 0, none⟩ = some (.int .i64 k.src) := cell_to (by simp [go_sem]) hb1; have pk1 : w1.cell? ⟨w.heap.size + 1, 1, none⟩ = some (.int .i64 k.dst) := cell_to (by simp [go_sem]) hb1; have pk2 : w1.cell? ⟨w.heap.size + 1, 2, none⟩ = some (.int .i64 k.proto) := cell_to (by simp [go_sem]) hb1; have pk3 : w1.cell? ⟨w.heap.size + 1, 3, none⟩ = some (.int .i64 k.port) := cell_to (by simp [go_sem]) hb1; have hz1 := hb_lt hb1; clear M1 m1)
    | (go_at_call 104; refine (blkHas_any ⟨r.db, r.dn⟩ k.dst _ HS.out.2.1 HS.out.2.2.2.1 HS.out.2.2.2.2).mono ?_; rintro e w2 ⟨rfl, hb2⟩; have q2 : w2.cell? ⟨w.heap.size, 2, none⟩ = some (.int .i64 r.db) := cell_to (p2) hb2; have q3 : w2.cell? ⟨w.heap.size, 3, none⟩ = some (.int .i64 r.dn) := cell_to (p3) hb2; have q4 : w2.cell? ⟨w.heap.size, 4, none⟩ = some (.int .i64 r.proto) := cell_to (p4) hb2; have q5 : w2.cell? ⟨w.heap.size, 5, none⟩ = some (.int .i64 r.lo) := cell_to (p5) hb2; have q6 : w2.cell? ⟨w.heap.size, 6, none⟩ = some (.int .i64 r.hi) := cell_to (p6) hb2; have qk0 : w2.cell? ⟨w.heap.size + 1, 0, none⟩ = some (.int .i64 k.src) := cell_to (pk0) hb2; have qk1 : w2.cell? ⟨w.heap.size + 1, 1, none⟩ = some (.int .i64 k.dst) := cell_to (pk1) hb2; have qk2 : w2.cell? ⟨w.heap.size + 1, 2, none⟩ = some (.int .i64 k.proto) := cell_to (pk2) hb2; have qk3 : w2.cell? ⟨w.heap.size + 1, 3, none⟩ = some (.int .i64 k.port) := cell_to (pk3) hb2; have hz2 := hb_lt hb2)
    | (go_at_call 105; refine (prtFits_any ⟨r.proto, r.lo, r.hi⟩ k _).mono ?_; rintro e w3 ⟨rfl, hb3⟩))
  go_ret
  exact ⟨by simp [rowFits, hq1, hq2, hq3], (by repeat (first | exact Below.refl _ _ | assumption | apply Ext.alloc | apply Ext.drewN | apply Ext.drew | refine Ext.trans ?_ (by assumption)))⟩
theorem decClo (r : DRow) (k : DPkt) (kb : Nat) (w : World) (hr : rowOk r = true) (hk : pktOk k = true) (c0 : w.cell? ⟨kb, 0, none⟩ = some (.int .i64 k.src)) (c1 : w.cell? ⟨kb, 1, none⟩ = some (.int .i64 k.dst)) (c2 : w.cell? ⟨kb, 2, none⟩ = some (.int .i64 k.proto)) (c3 : w.cell? ⟨kb, 3, none⟩ = some (.int .i64 k.port)) :
    Calls Tryz.prog 66 #[.agg #[.int .i64 r.sb, .int .i64 r.sn, .int .i64 r.db, .int .i64 r.dn, .int .i64 r.proto, .int .i64 r.lo, .int .i64 r.hi, .bool r.allow], .pointer (some ⟨kb, 0, none⟩)] w
      fun e w' => e = .returned (.bool (rowFits k r)) ∧ Below w.heap.size w w' := by
  have l1 := cell_lt c0
  have HR := hid hr
  have HK := hid hk
  clear hr hk
  go_enter Tryz.func66, Tryz.ntmps66
  go_wp2_with (go_at_call 67; refine (fits_any r k _ HR.out HK.out).mono ?_; rintro e w1 ⟨rfl, hb1⟩; obtain ⟨hc1, hf1⟩ := bcell hb1; have hz1 := hb_lt hb1)
  go_ret
  exact ⟨rfl, (by repeat (first | exact Below.refl _ _ | assumption | apply Ext.alloc | apply Ext.drewN | apply Ext.drew | refine Ext.trans ?_ (by assumption)))⟩
theorem indexFunc_any (f : DRow → Bool) (k0 : Value) (a : Option Addr) (cap n : Nat) (l : List DRow) (w : World) (hl : rdRows w.heap.size w a l) (hn : l.findIdx? f = some n)
    (hK : ∀ (x : DRow) (w1 : World), x ∈ l → Below w.heap.size w w1 → Calls Tryz.prog 66 #[.agg #[.int .i64 x.sb, .int .i64 x.sn, .int .i64 x.db, .int .i64 x.dn, .int .i64 x.proto, .int .i64 x.lo, .int .i64 x.hi, .bool x.allow], k0] w1 fun e w2 => e = .returned (.bool (f x)) ∧ Below w1.heap.size w1 w2) :
    Calls Tryz.prog 65 #[.slice a l.length cap, .func (.func 66) #[] #[k0]] w fun e w' => e = .returned (.int .i64 n) ∧ Below w.heap.size w w' := by
  have HK := hid hK
  obtain ⟨hlen, hl⟩ := hl
  have HL := hid hl
  obtain ⟨hnl, hnf, hnb⟩ := List.findIdx?_eq_some_iff_getElem.1 hn
  have HNF := hid hnf
  have HNB := hid hnb
  clear hl hK hn hnf hnb
  go_enter Tryz.func65, Tryz.ntmps65
  go_wp2
  go_loopw [8] (fun i wr => ∃ k : Nat, k ≤ n ∧ i = .int .i64 k ∧ Below w.heap.size w wr) (fun i _ => l.length - (intOf i).toNat)
  case atStart => exact ⟨0, Nat.zero_le _, rfl, Below.refl _ _⟩
  case round =>
    obtain ⟨k, hk, rfl, hbw⟩ := hrel
    have hlt : k < l.length := by omega
    obtain ⟨hc, hf⟩ := bcell hbw
    obtain ⟨b, off, rfl, hb, c0, c1, c2, c3, c4, c5, c6, c7⟩ := HL.out k l[k] (by simp)
    rcases Nat.lt_or_ge k n with h | h
    · have hx : f l[k] = false := by simpa using HNB.out k h
      have HXM := hid (show l[k] ∈ l from List.getElem_mem _)
      generalize l[k] = x at hx HXM c0 c1 c2 c3 c4 c5 c6 c7
      go_wp2_with (go_at_call 66; refine (HK.out x _ HXM.out (by repeat (first | exact Below.refl _ _ | assumption | apply Ext.alloc | apply Ext.drewN | apply Ext.drew | refine Ext.trans ?_ (by assumption)))).mono ?_; rw [hx]; rintro e w1 ⟨rfl, hb1⟩)
      exact ⟨⟨k + 1, by omega, by go_num, (by repeat (first | exact Below.refl _ _ | assumption | apply Ext.alloc | apply Ext.drewN | apply Ext.drew | refine Ext.trans ?_ (by assumption)))⟩, by simp [intOf]; omega⟩
    · have e : k = n := by omega
      subst e
      have hx : f l[k] = true := HNF.out
      have HXM := hid (show l[k] ∈ l from List.getElem_mem _)
      generalize l[k] = x at hx HXM c0 c1 c2 c3 c4 c5 c6 c7
      go_wp2_with (go_at_call 66; refine (HK.out x _ HXM.out (by repeat (first | exact Below.refl _ _ | assumption | apply Ext.alloc | apply Ext.drewN | apply Ext.drew | refine Ext.trans ?_ (by assumption)))).mono ?_; rw [hx]; rintro e w1 ⟨rfl, hb1⟩)
      go_ret
      exact ⟨rfl, (by repeat (first | exact Below.refl _ _ | assumption | apply Ext.alloc | apply Ext.drewN | apply Ext.drew | refine Ext.trans ?_ (by assumption)))⟩
theorem decides_any (l : List DRow) (k : DPkt) (n : Nat) (r : DRow) (a : Option Addr) (cap : Nat) (w : World) (hl : rdRows w.heap.size w a l) (hok : ∀ x ∈ l, rowOk x = true) (hk : pktOk k = true) (hn : l.findIdx? (rowFits k) = some n) (hr : l[n]? = some r) :
    Calls Tryz.prog 37 #[.slice a l.length cap, .agg #[.int .i64 k.src, .int .i64 k.dst, .int .i64 k.proto, .int .i64 k.port]] w fun e w' => e = .returned (.tuple #[.bool r.allow, .int .i64 n]) ∧ Below w.heap.size w w' := by
  have HL := hid hl
  have HOK := hid hok
  have HK := hid hk
  have HN := hid hn
  have hlen := hl.1
  obtain ⟨b, off, rfl, hb, c0, c1, c2, c3, c4, c5, c6, c7⟩ := hl.2 n r hr
  have hnl : n < l.length := (List.getElem?_eq_some_iff.1 hr).1
  have i0 : (0 : Int) ≤ (n : Int) := by omega
  have i1 : (n : Int) < (l.length : Int) := by omega
  have hmf := mkFunc
  clear hl hok hk hn hr c0 c1 c2 c3 c4 c5 c6
  go_enter Tryz.func37, Tryz.ntmps37
  go_wp2_with (go_at_call 65; go_must (refine (indexFunc_any (rowFits k) _ _ _ n _ _ (rdRows.to HL.out (by repeat (first | exact Below.refl _ _ | assumption | apply Ext.alloc | apply Ext.drewN | apply Ext.drew | refine Ext.trans ?_ (by assumption)))) HN.out (fun x w2 hx hb2 => decClo x k _ w2 (HOK.out x hx) HK.out (cell_to (by simp [go_sem]) hb2) (cell_to (by simp [go_sem]) hb2) (cell_to (by simp [go_sem]) hb2) (cell_to (by simp [go_sem]) hb2))).mono ?_); rintro e w1 ⟨rfl, hb1⟩; have d7 := cell_to c7 (show Below w.heap.size w w1 from (by repeat (first | exact Below.refl _ _ | assumption | apply Ext.alloc | apply Ext.drewN | apply Ext.drew | refine Ext.trans ?_ (by assumption)))))
  go_ret2
  exact ⟨rfl, (by repeat (first | exact Below.refl _ _ | assumption | apply Ext.alloc | apply Ext.drewN | apply Ext.drew | refine Ext.trans ?_ (by assumption)))⟩
end Go.Proofs.YtmkjlhplgcifiaaGreat
namespace Go.Proofs.YtmkjlhplgcifiaaGreat
open Go.ChangeShapes Go.WideShapes Go.ChangeAt Go.RowKit
attribute [local simp] World.cell?_grow
attribute [local go_sem] World.cell?_grow
attribute [local simp] World.cell?_alloc_there
attribute [local go_sem] World.cell?_alloc_there
attribute [local go_sem] eqg_blk std_blk eqg_pod std_pod eqg_sel std_sel eqg_prt std_prt
attribute [local go_sem ↓] eql_blk eql_sel neq_sel eql_prt eql_pod
attribute [local go_sem ↓] met_in1 met_in2 met_re1 met_re2
attribute [local go_sem ↓] met_has1 met_has2
attribute [local go_sem ↓] met_bl1 met_bl2
attribute [local go_sem] eqg_row std_row
attribute [local go_sem ↓] neq_row
set_option linter.unusedVariables false
set_option linter.unusedSimpArgs false
def encPl (p : Int × Int) : List Value := [.int .i64 p.1, .int .i64 p.2]
def ePl (_B : Nat) (w : World) (b o : Nat) (x : Int × Int) : Prop := w.cell? ⟨b, o, none⟩ = some (.int .i64 x.1) ∧ w.cell? ⟨b, o + 1, none⟩ = some (.int .i64 x.2)
abbrev rdPls (B : Nat) (w : World) (a : Option Addr) (l : List (Int × Int)) : Prop := RdSl B w 2 16 ePl a l
theorem info_pl : (Tryz.prog.info? 99).map (fun i => (i.zero, i.size, i.bytes)) = some (some (.agg #[.int .i64 0, .int .i64 0]), 2, 16) := by kernel_rfl
theorem plist_step : ∀ k : Fin 4, plist.take (2 * (k.val + 1)) = plist.take (2 * k.val) ++ [((k.val : Int), 1), ((k.val : Int), 2)] := by decide
theorem plist_len (k : Nat) (h : k ≤ 4) : (plist.take (2 * k)).length = 2 * k := by rw [List.length_take, show plist.length = 8 from rfl]; omega
theorem own_snoc2 {α : Type} {w : World} {base : Nat} {e : TypeId} {k : Nat} {v : Value} {l : List α} {x y : α} {enc : α → List Value} (h : w.ownsRow base e k v (l.length + 2) (l.flatMap enc ++ (enc x ++ enc y))) : w.ownsRow base e k v (l ++ [x, y]).length ((l ++ [x, y]).flatMap enc) := by
  simpa using h
set_option maxRecDepth 100000 in
theorem places_any (w : World) : Calls Tryz.prog 39 #[] w fun e w' => (∃ a c, e = .returned (.slice a plist.length c) ∧ rdPls w'.heap.size w' a plist) ∧ Below w.heap.size w w' := by
  obtain ⟨i0, hi, iz0, iz1, iz2⟩ := info_parts info_pl
  go_enter Tryz.func39, Tryz.ntmps39
  go_wp2
  go_loopw [1, 3] (fun kv i wr => ∃ k : Nat, k ≤ 4 ∧ i = .int .i64 k ∧ wr.ownsRow w.heap.size 99 2 kv (plist.take (2 * k)).length ((plist.take (2 * k)).flatMap encPl) ∧ Below w.heap.size w wr) (fun _ i _ => 4 - (intOf i).toNat)
  case atStart => exact ⟨0, Nat.zero_le _, rfl, World.ownsRow_nil _ _ _ _, Below.refl _ _⟩
  case round =>
    obtain ⟨k, hk, rfl, hown, hbw⟩ := hrel
    have HO := hid hown
    have hpl := plist_len k hk
    clear hown
    by_cases hlt : k < 4
    · have HS := hid (plist_step ⟨k, hlt⟩)
      have hk1 : (k : Int) < 4 := by omega
      go_wp2_with (at_builtin; refine wpList_append_own _ rfl _ _ 105 rfl w.heap.size 99 i0 _ 2 16 Tryz.underlying105 hi iz0 iz1 iz2 rfl (by decide) _ _ _ rfl (HO.out.alloc _) ⟨wr.heap.size, 0, none⟩ 2 2 [.int .i64 k, .int .i64 1, .int .i64 k, .int .i64 2] rfl rfl (cell_new_list _ [.int .i64 k, .int .i64 1, .int .i64 k, .int .i64 2] _) (fun u hu => by simp at hu; rcases hu with rfl | rfl | rfl | rfl <;> rfl) (by unfold maxLen; omega) (by omega) (by have := hbw.size; simp; omega) ?_; intro v' w3 hown' hg3 _)
      exact ⟨⟨k + 1, by omega, by go_num, by rw [HS.out]; exact own_snoc2 (enc := encPl) (x := ((k : Int), 1)) (y := ((k : Int), 2)) hown', own_below (hbw.alloc hbw.size _) (by have := hbw.size; simp; omega) (HO.out.alloc _) hg3⟩, by simp [intOf]; omega⟩
    · have e : k = 4 := by omega
      subst e
      have ho := HO.out
      rw [show plist.take (2 * 4) = plist from rfl] at ho
      obtain ⟨a, c, rfl, _, hr⟩ := own_rd (α := Int × Int) (k := 2) (l := plist) (enc := encPl) (E := ePl) (bytes := 16) (fun _ => rfl) ho (by decide) (by decide) fun b o x _ _ hc => ⟨hc 0 _ rfl, hc 1 _ rfl⟩
      have HR := hid hr
      clear ho hr
      go_wp2
      go_ret
      exact ⟨⟨a, c, rfl, HR.out⟩, hbw⟩
end Go.Proofs.YtmkjlhplgcifiaaGreat
namespace Go.Proofs.YtmkjlhplgcifiaaGreat
open Go.ChangeShapes Go.WideShapes Go.ChangeAt Go.RowKit
attribute [local simp] World.cell?_grow
attribute [local go_sem] World.cell?_grow
attribute [local simp] World.cell?_alloc_there
attribute [local go_sem] World.cell?_alloc_there
attribute [local go_sem] eqg_blk std_blk eqg_pod std_pod eqg_sel std_sel eqg_prt std_prt
attribute [local go_sem ↓] eql_blk eql_sel neq_sel eql_prt eql_pod
attribute [local go_sem ↓] met_in1 met_in2 met_re1 met_re2
attribute [local go_sem ↓] met_has1 met_has2
attribute [local go_sem ↓] met_bl1 met_bl2
attribute [local go_sem] eqg_row std_row
attribute [local go_sem ↓] neq_row
set_option linter.unusedVariables false
set_option linter.unusedSimpArgs false
end Go.Proofs.YtmkjlhplgcifiaaGreat
namespace Go.Proofs.YtmkjlhplgcifiaaGreat
open Go.ChangeShapes Go.WideShapes Go.ChangeAt Go.RowKit
attribute [local simp] World.cell?_grow
attribute [local go_sem] World.cell?_grow
attribute [local simp] World.cell?_alloc_there
attribute [local go_sem] World.cell?_alloc_there
attribute [local go_sem] eqg_blk std_blk eqg_pod std_pod eqg_sel std_sel eqg_prt std_prt
attribute [local go_sem ↓] eql_blk eql_sel neq_sel eql_prt eql_pod
attribute [local go_sem ↓] met_in1 met_in2 met_re1 met_re2
attribute [local go_sem ↓] met_has1 met_has2
attribute [local go_sem ↓] met_bl1 met_bl2
set_option linter.unusedVariables false
set_option linter.unusedSimpArgs false
abbrev UpPods := Up 54 4 encPod NNo
theorem upPods_done {base : Nat} {w : World} {v : Value} {l : List DPod} (h : UpPods base w v l) (hl : l.length * 32 ≤ 140737488351232) : ∃ a c, v = .slice a l.length c ∧ l.length ≤ c ∧ rdPods w.heap.size (hide w (low base)) a l := by
  have := Up.done (X := DPod) (k := 4) (enc := encPod) (N := NNo) (d := id) (E := ePod) (bytes := 32) NNo.mono (fun _ => rfl) (by decide) h hl (fun B w b o y _ hc => ⟨hc 0 _ rfl, hc 1 _ rfl, hc 2 _ rfl, hc 3 _ rfl⟩)
  simpa using this
theorem upPorts_done' {base : Nat} {w : World} {v : Value} {l : List DPort} (h : UpPorts base w v l) (hl : l.length * 24 ≤ 140737488351232) : ∃ a c, v = .slice a l.length c ∧ l.length ≤ c ∧ rdPorts w.heap.size (hide w (low base)) a l := by
  have := Up.done (X := DPort) (k := 3) (enc := encPort) (N := NNo) (d := id) (E := ePort) (bytes := 24) NNo.mono (fun _ => rfl) (by decide) h hl (fun B w b o y _ hc => ⟨hc 0 _ rfl, hc 1 _ rfl, hc 2 _ rfl⟩)
  simpa using this
theorem upBlks_done' {base : Nat} {w : World} {v : Value} {l : List DBlk} (h : UpBlks base w v l) (hl : l.length * 16 ≤ 140737488351232) : ∃ a c, v = .slice a l.length c ∧ l.length ≤ c ∧ rdBlks w.heap.size (hide w (low base)) a l := by
  have := Up.done (X := DBlk) (k := 2) (enc := encBlk) (N := NNo) (d := id) (E := eBlk) (bytes := 16) NNo.mono (fun _ => rfl) (by decide) h hl (fun B w b o y _ hc => ⟨hc 0 _ rfl, hc 1 _ rfl⟩)
  simpa using this
theorem ePod_cells {B : Nat} {w : World} {b o : Nat} {x : DPod} (h : ePod B w b o x) : ∀ j u, (encPod x)[j]? = some u → w.cell? ⟨b, o + j, none⟩ = some u
  | 0, u, hj => by simp [encPod] at hj; subst hj; exact h.1
  | 1, u, hj => by simp [encPod] at hj; subst hj; exact h.2.1
  | 2, u, hj => by simp [encPod] at hj; subst hj; exact h.2.2.1
  | 3, u, hj => by simp [encPod] at hj; subst hj; exact h.2.2.2
  | j + 4, u, hj => by simp [encPod] at hj
theorem ePort_cells {B : Nat} {w : World} {b o : Nat} {x : DPort} (h : ePort B w b o x) : ∀ j u, (encPort x)[j]? = some u → w.cell? ⟨b, o + j, none⟩ = some u
  | 0, u, hj => by simp [encPort] at hj; subst hj; exact h.1
  | 1, u, hj => by simp [encPort] at hj; subst hj; exact h.2.1
  | 2, u, hj => by simp [encPort] at hj; subst hj; exact h.2.2
  | j + 3, u, hj => by simp [encPort] at hj
theorem encPods_one (l : List DPod) : ∀ u ∈ l.flatMap encPod, u.oneCell' = true := by
  intro u hu
  obtain ⟨x, _, hx⟩ := List.mem_flatMap.1 hu
  simp [encPod] at hx
  rcases hx with rfl | rfl | rfl | rfl <;> rfl
theorem encPorts_one (l : List DPort) : ∀ u ∈ l.flatMap encPort, u.oneCell' = true := by
  intro u hu
  obtain ⟨x, _, hx⟩ := List.mem_flatMap.1 hu
  simp [encPort] at hx
  rcases hx with rfl | rfl | rfl <;> rfl
theorem rd_none {α : Type} {B : Nat} {w : World} {sz bytes : Nat} {E : Nat → World → Nat → Nat → α → Prop} {l : List α} (h : RdSl B w sz bytes E none l) : l = [] := by
  cases l with
  | nil => rfl
  | cons x t => obtain ⟨b, off, e, _⟩ := h.2 0 x rfl; cases e
set_option maxRecDepth 100000 in
theorem clonePods_any (l : List DPod) (a : Option Addr) (cap : Nat) (w : World) (hl : rdPods w.heap.size w a l) :
    Calls Tryz.prog 58 #[.slice a l.length cap] w fun e w' => (∃ a' c', e = .returned (.slice a' l.length c') ∧ l.length ≤ c' ∧ rdPods w'.heap.size (hide w' (low w.heap.size)) a' l) ∧ Below w.heap.size w w' := by
  have HL := hid hl
  have hlen := hl.1
  obtain ⟨i0, hi, iz0, iz1, iz2⟩ := info_parts info_pod
  cases a with
  | none =>
    have hnil := rd_none hl
    subst hnil
    have hq : ∀ w, (binOp .eql 25 (.slice none 0 cap) (.slice none 0 0)).run Tryz.prog w = .ok (.bool true) w := fun w => by
      simp only [binOp]
      simp [Op.equal, Op.maxDepth, Lib.run_equalIn_slice_nil w 9999 _ _ none 0 cap 0 0 Tryz.underlying25]
    clear hl
    rw [List.length_nil]
    go_enter Tryz.func58, Tryz.ntmps58
    go_wp2
    go_ret
    exact ⟨⟨none, 0, rfl, Nat.le_refl _, rd_nil _ _ _ _ _ _⟩, (by repeat (first | exact Below.refl _ _ | assumption | apply Ext.alloc | apply Ext.drewN | apply Ext.drew | refine Ext.trans ?_ (by assumption)))⟩
  | some ad =>
    have hq : ∀ w, (binOp .eql 25 (.slice (some ad) l.length cap) (.slice none 0 0)).run Tryz.prog w = .ok (.bool false) w := fun w => by
      simp only [binOp]
      simp [Op.equal, Op.maxDepth, Lib.run_equalIn_slice_nil w 9999 _ _ (some ad) l.length cap 0 0 Tryz.underlying25]
    clear hl
    go_enter Tryz.func58, Tryz.ntmps58
    go_wp2_with (at_builtin; refine wpList_append_list _ rfl _ _ 25 rfl w.heap.size 54 i0 _ 4 32 Tryz.underlying25 hi iz0 iz1 iz2 rfl (by decide) _ 0 [] rfl (own_built w [] w.heap.size _ 4 0 (Nat.le_refl _) rfl (by unfold maxLen; omega)) (some ad) _ cap (l.flatMap encPod) rfl (oflat_len (k := 4) (fun _ => rfl) _) (news_of (k := 4) (fun _ => rfl) (by decide) (rdPods.to HL.out (by repeat (first | exact Below.refl _ _ | assumption | apply Ext.alloc | apply Ext.drewN | apply Ext.drew | refine Ext.trans ?_ (by assumption)))) (fun _ _ _ => ePod_cells)) (encPods_one _) (by unfold maxLen; omega) (by omega) (by simp) ?_; intro v' w3 hown' hg3; obtain ⟨a3, c3, rfl, hc3, hr3⟩ := upPods_done (base := w.heap.size) (w := w3) (v := v') (l := l) ⟨by simpa using hown', fun _ _ => trivial⟩ hlen; have HR3 := hid hr3; clear hr3)
    go_ret
    refine ⟨⟨a3, c3, rfl, hc3, HR3.out⟩, ?_⟩
    exact own_below (show Below w.heap.size w (w.alloc (.cells #[] 54)) from (by repeat (first | exact Below.refl _ _ | assumption | apply Ext.alloc | apply Ext.drewN | apply Ext.drew | refine Ext.trans ?_ (by assumption)))) (by simp) (own_built w [] w.heap.size _ 4 0 (Nat.le_refl _) rfl (by unfold maxLen; omega)) hg3
set_option maxRecDepth 100000 in
theorem clonePorts_any (l : List DPort) (a : Option Addr) (cap : Nat) (w : World) (hl : rdPorts w.heap.size w a l) :
    Calls Tryz.prog 132 #[.slice a l.length cap] w fun e w' => (∃ a' c', e = .returned (.slice a' l.length c') ∧ l.length ≤ c' ∧ rdPorts w'.heap.size (hide w' (low w.heap.size)) a' l) ∧ Below w.heap.size w w' := by
  have HL := hid hl
  have hlen := hl.1
  obtain ⟨i0, hi, iz0, iz1, iz2⟩ := info_parts info_port
  cases a with
  | none =>
    have hnil := rd_none hl
    subst hnil
    have hq : ∀ w, (binOp .eql 62 (.slice none 0 cap) (.slice none 0 0)).run Tryz.prog w = .ok (.bool true) w := fun w => by
      simp only [binOp]
      simp [Op.equal, Op.maxDepth, Lib.run_equalIn_slice_nil w 9999 _ _ none 0 cap 0 0 Tryz.underlying62]
    clear hl
    rw [List.length_nil]
    go_enter Tryz.func132, Tryz.ntmps132
    go_wp2
    go_ret
    exact ⟨⟨none, 0, rfl, Nat.le_refl _, rd_nil _ _ _ _ _ _⟩, (by repeat (first | exact Below.refl _ _ | assumption | apply Ext.alloc | apply Ext.drewN | apply Ext.drew | refine Ext.trans ?_ (by assumption)))⟩
  | some ad =>
    have hq : ∀ w, (binOp .eql 62 (.slice (some ad) l.length cap) (.slice none 0 0)).run Tryz.prog w = .ok (.bool false) w := fun w => by
      simp only [binOp]
      simp [Op.equal, Op.maxDepth, Lib.run_equalIn_slice_nil w 9999 _ _ (some ad) l.length cap 0 0 Tryz.underlying62]
    clear hl
    go_enter Tryz.func132, Tryz.ntmps132
    go_wp2_with (at_builtin; refine wpList_append_list _ rfl _ _ 62 rfl w.heap.size 109 i0 _ 3 24 Tryz.underlying62 hi iz0 iz1 iz2 rfl (by decide) _ 0 [] rfl (own_built w [] w.heap.size _ 3 0 (Nat.le_refl _) rfl (by unfold maxLen; omega)) (some ad) _ cap (l.flatMap encPort) rfl (oflat_len (k := 3) (fun _ => rfl) _) (news_of (k := 3) (fun _ => rfl) (by decide) (rdPorts.to HL.out (by repeat (first | exact Below.refl _ _ | assumption | apply Ext.alloc | apply Ext.drewN | apply Ext.drew | refine Ext.trans ?_ (by assumption)))) (fun _ _ _ => ePort_cells)) (encPorts_one _) (by unfold maxLen; omega) (by omega) (by simp) ?_; intro v' w3 hown' hg3; obtain ⟨a3, c3, rfl, hc3, hr3⟩ := upPorts_done' (base := w.heap.size) (w := w3) (v := v') (l := l) ⟨by simpa using hown', fun _ _ => trivial⟩ hlen; have HR3 := hid hr3; clear hr3)
    go_ret
    refine ⟨⟨a3, c3, rfl, hc3, HR3.out⟩, ?_⟩
    exact own_below (show Below w.heap.size w (w.alloc (.cells #[] 109)) from (by repeat (first | exact Below.refl _ _ | assumption | apply Ext.alloc | apply Ext.drewN | apply Ext.drew | refine Ext.trans ?_ (by assumption)))) (by simp) (own_built w [] w.heap.size _ 3 0 (Nat.le_refl _) rfl (by unfold maxLen; omega)) hg3
set_option maxRecDepth 100000 in
theorem cloneBlks_any (l : List DBlk) (a : Option Addr) (cap : Nat) (w : World) (hl : rdBlks w.heap.size w a l) :
    Calls Tryz.prog 160 #[.slice a l.length cap] w fun e w' => (∃ a' c', e = .returned (.slice a' l.length c') ∧ l.length ≤ c' ∧ rdBlks w'.heap.size (hide w' (low w.heap.size)) a' l) ∧ Below w.heap.size w w' := by
  have HL := hid hl
  have hlen := hl.1
  obtain ⟨i0, hi, iz0, iz1, iz2⟩ := info_parts info_blk
  cases a with
  | none =>
    have hnil := rd_none hl
    subst hnil
    have hq : ∀ w, (binOp .eql 67 (.slice none 0 cap) (.slice none 0 0)).run Tryz.prog w = .ok (.bool true) w := fun w => by
      simp only [binOp]
      simp [Op.equal, Op.maxDepth, Lib.run_equalIn_slice_nil w 9999 _ _ none 0 cap 0 0 Tryz.underlying67]
    clear hl
    rw [List.length_nil]
    go_enter Tryz.func160, Tryz.ntmps160
    go_wp2
    go_ret
    exact ⟨⟨none, 0, rfl, Nat.le_refl _, rd_nil _ _ _ _ _ _⟩, (by repeat (first | exact Below.refl _ _ | assumption | apply Ext.alloc | apply Ext.drewN | apply Ext.drew | refine Ext.trans ?_ (by assumption)))⟩
  | some ad =>
    have hq : ∀ w, (binOp .eql 67 (.slice (some ad) l.length cap) (.slice none 0 0)).run Tryz.prog w = .ok (.bool false) w := fun w => by
      simp only [binOp]
      simp [Op.equal, Op.maxDepth, Lib.run_equalIn_slice_nil w 9999 _ _ (some ad) l.length cap 0 0 Tryz.underlying67]
    clear hl
    go_enter Tryz.func160, Tryz.ntmps160
    go_wp2_with (at_builtin; refine wpList_append_list _ rfl _ _ 67 rfl w.heap.size 47 i0 _ 2 16 Tryz.underlying67 hi iz0 iz1 iz2 rfl (by decide) _ 0 [] rfl (own_built w [] w.heap.size _ 2 0 (Nat.le_refl _) rfl (by unfold maxLen; omega)) (some ad) _ cap (l.flatMap encBlk) rfl (oflat_len (k := 2) (fun _ => rfl) _) (news_of (k := 2) (fun _ => rfl) (by decide) (rdBlks.to HL.out (by repeat (first | exact Below.refl _ _ | assumption | apply Ext.alloc | apply Ext.drewN | apply Ext.drew | refine Ext.trans ?_ (by assumption)))) (fun _ _ _ => eBlk_cells)) (encBlk_one _) (by unfold maxLen; omega) (by omega) (by simp) ?_; intro v' w3 hown' hg3; obtain ⟨a3, c3, rfl, hc3, hr3⟩ := upBlks_done' (base := w.heap.size) (w := w3) (v := v') (l := l) ⟨by simpa using hown', fun _ _ => trivial⟩ hlen; have HR3 := hid hr3; clear hr3)
    go_ret
    refine ⟨⟨a3, c3, rfl, hc3, HR3.out⟩, ?_⟩
    exact own_below (show Below w.heap.size w (w.alloc (.cells #[] 47)) from (by repeat (first | exact Below.refl _ _ | assumption | apply Ext.alloc | apply Ext.drewN | apply Ext.drew | refine Ext.trans ?_ (by assumption)))) (by simp) (own_built w [] w.heap.size _ 2 0 (Nat.le_refl _) rfl (by unfold maxLen; omega)) hg3
end Go.Proofs.YtmkjlhplgcifiaaGreat
