/-
  Which row decides; the places; a copy of rows.
-/
import Derived.Test.YtmkjlhplgcifiaaGreatH18
import Derived.Test.YtmkjlhplgcifiaaGreatH05
import Derived.Test.YtmkjlhplgcifiaaGreatH08
namespace Go.Proofs.YtmkjlhplgcifiaaGreat
open Go.ChangeShapes Go.WideShapes Go.ChangeAt Go.RowKit
set_option linter.unusedVariables false
set_option linter.unusedSimpArgs false
attribute [local simp] World.cell?_grow World.cell?_alloc_there
attribute [local go_sem] World.cell?_grow World.cell?_alloc_there eqg_blk std_blk eqg_pod std_pod eqg_sel std_sel eqg_prt std_prt eqg_row std_row
attribute [local go_sem ↓] eql_blk eql_sel neq_sel eql_prt eql_pod met_in1 met_in2 met_re1 met_re2 met_has1 met_has2 met_bl1 met_bl2 neq_row
def rowOk (r : DRow) : Bool := blkOk ⟨r.sb, r.sn⟩ && blkOk ⟨r.db, r.dn⟩ && prtOk ⟨r.proto, r.lo, r.hi⟩
def rowFits (k : DPkt) (r : DRow) : Bool := blkHas k.src ⟨r.sb, r.sn⟩ && blkHas k.dst ⟨r.db, r.dn⟩ && prtFits k ⟨r.proto, r.lo, r.hi⟩
theorem rowOk_true {r : DRow} : rowOk r = true ↔ blkOk ⟨r.sb, r.sn⟩ = true ∧ blkOk ⟨r.db, r.dn⟩ = true ∧ prtOk ⟨r.proto, r.lo, r.hi⟩ = true := by simp [rowOk, and_assoc]
theorem fits_any (r : DRow) (k : DPkt) (w : World) (hr : rowOk r = true) (hk : pktOk k = true) :
    Calls Tryz.prog 67 #[.agg #[.int .i64 r.sb, .int .i64 r.sn, .int .i64 r.db, .int .i64 r.dn, .int .i64 r.proto, .int .i64 r.lo, .int .i64 r.hi, .bool r.allow], .agg #[.int .i64 k.src, .int .i64 k.dst, .int .i64 k.proto, .int .i64 k.port]] w
      fun e w' => e = .returned (.bool (rowFits k r)) ∧ Below w.heap.size w w' := by
  have h1 := (rowOk_true.1 hr).1
  have h2 := (rowOk_true.1 hr).2.1
  have s1 := pktOk_src hk
  have s2 := pktOk_dst hk
  have HS := hid (And.intro h1 (And.intro h2 (And.intro s1 s2)))
  clear hr hk h1 h2 s1 s2
  have M1 := hid True.intro
  go_enter Tryz.func67, Tryz.ntmps67
  cases hq1 : blkHas k.src ⟨r.sb, r.sn⟩
  · go_wp2_with (first
      | (go_at_call 104; have m1 := M1.out; refine (blkHas_any ⟨r.sb, r.sn⟩ k.src _ HS.out.1 HS.out.2.2.1.1 HS.out.2.2.1.2).mono ?_; rintro e w1 ⟨rfl, hb1⟩; have p2 : w1.cell? ⟨w.heap.size, 2, none⟩ = some (.int .i64 r.db) := cell_to (by simp [go_sem]) hb1; have p3 : w1.cell? ⟨w.heap.size, 3, none⟩ = some (.int .i64 r.dn) := cell_to (by simp [go_sem]) hb1; have p4 : w1.cell? ⟨w.heap.size, 4, none⟩ = some (.int .i64 r.proto) := cell_to (by simp [go_sem]) hb1; have p5 : w1.cell? ⟨w.heap.size, 5, none⟩ = some (.int .i64 r.lo) := cell_to (by simp [go_sem]) hb1; have p6 : w1.cell? ⟨w.heap.size, 6, none⟩ = some (.int .i64 r.hi) := cell_to (by simp [go_sem]) hb1; have pk0 : w1.cell? ⟨w.heap.size + 1, 0, none⟩ = some (.int .i64 k.src) := cell_to (by simp [go_sem]) hb1; have pk1 : w1.cell? ⟨w.heap.size + 1, 1, none⟩ = some (.int .i64 k.dst) := cell_to (by simp [go_sem]) hb1; have pk2 : w1.cell? ⟨w.heap.size + 1, 2, none⟩ = some (.int .i64 k.proto) := cell_to (by simp [go_sem]) hb1; have pk3 : w1.cell? ⟨w.heap.size + 1, 3, none⟩ = some (.int .i64 k.port) := cell_to (by simp [go_sem]) hb1; have hz1 := hb_lt hb1; clear M1 m1)
      | (go_at_call 104; refine (blkHas_any ⟨r.db, r.dn⟩ k.dst _ HS.out.2.1 HS.out.2.2.2.1 HS.out.2.2.2.2).mono ?_; rintro e w2 ⟨rfl, hb2⟩; have q2 : w2.cell? ⟨w.heap.size, 2, none⟩ = some (.int .i64 r.db) := cell_to (p2) hb2; have q3 : w2.cell? ⟨w.heap.size, 3, none⟩ = some (.int .i64 r.dn) := cell_to (p3) hb2; have q4 : w2.cell? ⟨w.heap.size, 4, none⟩ = some (.int .i64 r.proto) := cell_to (p4) hb2; have q5 : w2.cell? ⟨w.heap.size, 5, none⟩ = some (.int .i64 r.lo) := cell_to (p5) hb2; have q6 : w2.cell? ⟨w.heap.size, 6, none⟩ = some (.int .i64 r.hi) := cell_to (p6) hb2; have qk0 : w2.cell? ⟨w.heap.size + 1, 0, none⟩ = some (.int .i64 k.src) := cell_to (pk0) hb2; have qk1 : w2.cell? ⟨w.heap.size + 1, 1, none⟩ = some (.int .i64 k.dst) := cell_to (pk1) hb2; have qk2 : w2.cell? ⟨w.heap.size + 1, 2, none⟩ = some (.int .i64 k.proto) := cell_to (pk2) hb2; have qk3 : w2.cell? ⟨w.heap.size + 1, 3, none⟩ = some (.int .i64 k.port) := cell_to (pk3) hb2; have hz2 := hb_lt hb2)
      | (go_at_call 105; refine (prtFits_any ⟨r.proto, r.lo, r.hi⟩ k _).mono ?_; rintro e w3 ⟨rfl, hb3⟩))
    go_ret
    exact ⟨by simp [rowFits, hq1], bel⟩
  cases hq2 : blkHas k.dst ⟨r.db, r.dn⟩
  · go_wp2_with (first
      | (go_at_call 104; have m1 := M1.out; refine (blkHas_any ⟨r.sb, r.sn⟩ k.src _ HS.out.1 HS.out.2.2.1.1 HS.out.2.2.1.2).mono ?_; rintro e w1 ⟨rfl, hb1⟩; have p2 : w1.cell? ⟨w.heap.size, 2, none⟩ = some (.int .i64 r.db) := cell_to (by simp [go_sem]) hb1; have p3 : w1.cell? ⟨w.heap.size, 3, none⟩ = some (.int .i64 r.dn) := cell_to (by simp [go_sem]) hb1; have p4 : w1.cell? ⟨w.heap.size, 4, none⟩ = some (.int .i64 r.proto) := cell_to (by simp [go_sem]) hb1; have p5 : w1.cell? ⟨w.heap.size, 5, none⟩ = some (.int .i64 r.lo) := cell_to (by simp [go_sem]) hb1; have p6 : w1.cell? ⟨w.heap.size, 6, none⟩ = some (.int .i64 r.hi) := cell_to (by simp [go_sem]) hb1; have pk0 : w1.cell? ⟨w.heap.size + 1, 0, none⟩ = some (.int .i64 k.src) := cell_to (by simp [go_sem]) hb1; have pk1 : w1.cell? ⟨w.heap.size + 1, 1, none⟩ = some (.int .i64 k.dst) := cell_to (by simp [go_sem]) hb1; have pk2 : w1.cell? ⟨w.heap.size + 1, 2, none⟩ = some (.int .i64 k.proto) := cell_to (by simp [go_sem]) hb1; have pk3 : w1.cell? ⟨w.heap.size + 1, 3, none⟩ = some (.int .i64 k.port) := cell_to (by simp [go_sem]) hb1; have hz1 := hb_lt hb1; clear M1 m1)
      | (go_at_call 104; refine (blkHas_any ⟨r.db, r.dn⟩ k.dst _ HS.out.2.1 HS.out.2.2.2.1 HS.out.2.2.2.2).mono ?_; rintro e w2 ⟨rfl, hb2⟩; have q2 : w2.cell? ⟨w.heap.size, 2, none⟩ = some (.int .i64 r.db) := cell_to (p2) hb2; have q3 : w2.cell? ⟨w.heap.size, 3, none⟩ = some (.int .i64 r.dn) := cell_to (p3) hb2; have q4 : w2.cell? ⟨w.heap.size, 4, none⟩ = some (.int .i64 r.proto) := cell_to (p4) hb2; have q5 : w2.cell? ⟨w.heap.size, 5, none⟩ = some (.int .i64 r.lo) := cell_to (p5) hb2; have q6 : w2.cell? ⟨w.heap.size, 6, none⟩ = some (.int .i64 r.hi) := cell_to (p6) hb2; have qk0 : w2.cell? ⟨w.heap.size + 1, 0, none⟩ = some (.int .i64 k.src) := cell_to (pk0) hb2; have qk1 : w2.cell? ⟨w.heap.size + 1, 1, none⟩ = some (.int .i64 k.dst) := cell_to (pk1) hb2; have qk2 : w2.cell? ⟨w.heap.size + 1, 2, none⟩ = some (.int .i64 k.proto) := cell_to (pk2) hb2; have qk3 : w2.cell? ⟨w.heap.size + 1, 3, none⟩ = some (.int .i64 k.port) := cell_to (pk3) hb2; have hz2 := hb_lt hb2)
      | (go_at_call 105; refine (prtFits_any ⟨r.proto, r.lo, r.hi⟩ k _).mono ?_; rintro e w3 ⟨rfl, hb3⟩))
    go_ret
    exact ⟨by simp [rowFits, hq1, hq2], bel⟩
  cases hq3 : prtFits k ⟨r.proto, r.lo, r.hi⟩
  · go_wp2_with (first
      | (go_at_call 104; have m1 := M1.out; refine (blkHas_any ⟨r.sb, r.sn⟩ k.src _ HS.out.1 HS.out.2.2.1.1 HS.out.2.2.1.2).mono ?_; rintro e w1 ⟨rfl, hb1⟩; have p2 : w1.cell? ⟨w.heap.size, 2, none⟩ = some (.int .i64 r.db) := cell_to (by simp [go_sem]) hb1; have p3 : w1.cell? ⟨w.heap.size, 3, none⟩ = some (.int .i64 r.dn) := cell_to (by simp [go_sem]) hb1; have p4 : w1.cell? ⟨w.heap.size, 4, none⟩ = some (.int .i64 r.proto) := cell_to (by simp [go_sem]) hb1; have p5 : w1.cell? ⟨w.heap.size, 5, none⟩ = some (.int .i64 r.lo) := cell_to (by simp [go_sem]) hb1; have p6 : w1.cell? ⟨w.heap.size, 6, none⟩ = some (.int .i64 r.hi) := cell_to (by simp [go_sem]) hb1; have pk0 : w1.cell? ⟨w.heap.size + 1, 0, none⟩ = some (.int .i64 k.src) := cell_to (by simp [go_sem]) hb1; have pk1 : w1.cell? ⟨w.heap.size + 1, 1, none⟩ = some (.int .i64 k.dst) := cell_to (by simp [go_sem]) hb1; have pk2 : w1.cell? ⟨w.heap.size + 1, 2, none⟩ = some (.int .i64 k.proto) := cell_to (by simp [go_sem]) hb1; have pk3 : w1.cell? ⟨w.heap.size + 1, 3, none⟩ = some (.int .i64 k.port) := cell_to (by simp [go_sem]) hb1; have hz1 := hb_lt hb1; clear M1 m1)
      | (go_at_call 104; refine (blkHas_any ⟨r.db, r.dn⟩ k.dst _ HS.out.2.1 HS.out.2.2.2.1 HS.out.2.2.2.2).mono ?_; rintro e w2 ⟨rfl, hb2⟩; have q2 : w2.cell? ⟨w.heap.size, 2, none⟩ = some (.int .i64 r.db) := cell_to (p2) hb2; have q3 : w2.cell? ⟨w.heap.size, 3, none⟩ = some (.int .i64 r.dn) := cell_to (p3) hb2; have q4 : w2.cell? ⟨w.heap.size, 4, none⟩ = some (.int .i64 r.proto) := cell_to (p4) hb2; have q5 : w2.cell? ⟨w.heap.size, 5, none⟩ = some (.int .i64 r.lo) := cell_to (p5) hb2; have q6 : w2.cell? ⟨w.heap.size, 6, none⟩ = some (.int .i64 r.hi) := cell_to (p6) hb2; have qk0 : w2.cell? ⟨w.heap.size + 1, 0, none⟩ = some (.int .i64 k.src) := cell_to (pk0) hb2; have qk1 : w2.cell? ⟨w.heap.size + 1, 1, none⟩ = some (.int .i64 k.dst) := cell_to (pk1) hb2; have qk2 : w2.cell? ⟨w.heap.size + 1, 2, none⟩ = some (.int .i64 k.proto) := cell_to (pk2) hb2; have qk3 : w2.cell? ⟨w.heap.size + 1, 3, none⟩ = some (.int .i64 k.port) := cell_to (pk3) hb2; have hz2 := hb_lt hb2)
      | (go_at_call 105; refine (prtFits_any ⟨r.proto, r.lo, r.hi⟩ k _).mono ?_; rintro e w3 ⟨rfl, hb3⟩))
    go_ret
    exact ⟨by simp [rowFits, hq1, hq2, hq3], bel⟩
  go_wp2_with (first
    | (go_at_call 104; have m1 := M1.out; refine (blkHas_any ⟨r.sb, r.sn⟩ k.src _ HS.out.1 HS.out.2.2.1.1 HS.out.2.2.1.2).mono ?_; rintro e w1 ⟨rfl, hb1⟩; have p2 : w1.cell? ⟨w.heap.size, 2, none⟩ = some (.int .i64 r.db) := cell_to (by simp [go_sem]) hb1; have p3 : w1.cell? ⟨w.heap.size, 3, none⟩ = some (.int .i64 r.dn) := cell_to (by simp [go_sem]) hb1; have p4 : w1.cell? ⟨w.heap.size, 4, none⟩ = some (.int .i64 r.proto) := cell_to (by simp [go_sem]) hb1; have p5 : w1.cell? ⟨w.heap.size, 5, none⟩ = some (.int .i64 r.lo) := cell_to (by simp [go_sem]) hb1; have p6 : w1.cell? ⟨w.heap.size, 6, none⟩ = some (.int .i64 r.hi) := cell_to (by simp [go_sem]) hb1; have pk0 : w1.cell? ⟨w.heap.size + 1, 0, none⟩ = some (.int .i64 k.src) := cell_to (by simp [go_sem]) hb1; have pk1 : w1.cell? ⟨w.heap.size + 1, 1, none⟩ = some (.int .i64 k.dst) := cell_to (by simp [go_sem]) hb1; have pk2 : w1.cell? ⟨w.heap.size + 1, 2, none⟩ = some (.int .i64 k.proto) := cell_to (by simp [go_sem]) hb1; have pk3 : w1.cell? ⟨w.heap.size + 1, 3, none⟩ = some (.int .i64 k.port) := cell_to (by simp [go_sem]) hb1; have hz1 := hb_lt hb1; clear M1 m1)
    | (go_at_call 104; refine (blkHas_any ⟨r.db, r.dn⟩ k.dst _ HS.out.2.1 HS.out.2.2.2.1 HS.out.2.2.2.2).mono ?_; rintro e w2 ⟨rfl, hb2⟩; have q2 : w2.cell? ⟨w.heap.size, 2, none⟩ = some (.int .i64 r.db) := cell_to (p2) hb2; have q3 : w2.cell? ⟨w.heap.size, 3, none⟩ = some (.int .i64 r.dn) := cell_to (p3) hb2; have q4 : w2.cell? ⟨w.heap.size, 4, none⟩ = some (.int .i64 r.proto) := cell_to (p4) hb2; have q5 : w2.cell? ⟨w.heap.size, 5, none⟩ = some (.int .i64 r.lo) := cell_to (p5) hb2; have q6 : w2.cell? ⟨w.heap.size, 6, none⟩ = some (.int .i64 r.hi) := cell_to (p6) hb2; have qk0 : w2.cell? ⟨w.heap.size + 1, 0, none⟩ = some (.int .i64 k.src) := cell_to (pk0) hb2; have qk1 : w2.cell? ⟨w.heap.size + 1, 1, none⟩ = some (.int .i64 k.dst) := cell_to (pk1) hb2; have qk2 : w2.cell? ⟨w.heap.size + 1, 2, none⟩ = some (.int .i64 k.proto) := cell_to (pk2) hb2; have qk3 : w2.cell? ⟨w.heap.size + 1, 3, none⟩ = some (.int .i64 k.port) := cell_to (pk3) hb2; have hz2 := hb_lt hb2)
    | (go_at_call 105; refine (prtFits_any ⟨r.proto, r.lo, r.hi⟩ k _).mono ?_; rintro e w3 ⟨rfl, hb3⟩))
  go_ret
  exact ⟨by simp [rowFits, hq1, hq2, hq3], bel⟩
theorem decClo (r : DRow) (k : DPkt) (kb : Nat) (w : World) (hr : rowOk r = true) (hk : pktOk k = true) (c0 : w.cell? ⟨kb, 0, none⟩ = some (.int .i64 k.src)) (c1 : w.cell? ⟨kb, 1, none⟩ = some (.int .i64 k.dst)) (c2 : w.cell? ⟨kb, 2, none⟩ = some (.int .i64 k.proto)) (c3 : w.cell? ⟨kb, 3, none⟩ = some (.int .i64 k.port)) :
    Calls Tryz.prog 66 #[.agg #[.int .i64 r.sb, .int .i64 r.sn, .int .i64 r.db, .int .i64 r.dn, .int .i64 r.proto, .int .i64 r.lo, .int .i64 r.hi, .bool r.allow], .pointer (some ⟨kb, 0, none⟩)] w
      fun e w' => e = .returned (.bool (rowFits k r)) ∧ Below w.heap.size w w' := by
  have l1 := cell_lt c0
  have HR := hid hr
  have HK := hid hk
  clear hr hk
  go_enter Tryz.func66, Tryz.ntmps66
  go_wp2_with (go_at_call 67; refine (fits_any r k _ HR.out HK.out).mono ?_; rintro e w1 ⟨rfl, hb1⟩; obtain ⟨hc1, hf1⟩ := bcell hb1; have hz1 := hb_lt hb1)
  go_ret
  exact ⟨rfl, bel⟩
theorem indexFunc_any (f : DRow → Bool) (k0 : Value) (a : Option Addr) (cap n : Nat) (l : List DRow) (w : World) (hl : rdRows w.heap.size w a l) (hn : l.findIdx? f = some n)
    (hK : ∀ (x : DRow) (w1 : World), x ∈ l → Below w.heap.size w w1 → Calls Tryz.prog 66 #[.agg #[.int .i64 x.sb, .int .i64 x.sn, .int .i64 x.db, .int .i64 x.dn, .int .i64 x.proto, .int .i64 x.lo, .int .i64 x.hi, .bool x.allow], k0] w1 fun e w2 => e = .returned (.bool (f x)) ∧ Below w1.heap.size w1 w2) :
    Calls Tryz.prog 65 #[.slice a l.length cap, .func (.func 66) #[] #[k0]] w fun e w' => e = .returned (.int .i64 n) ∧ Below w.heap.size w w' := by
  have HK := hid hK
  obtain ⟨hlen, hl⟩ := hl
  have HL := hid hl
  obtain ⟨hnl, hnf, hnb⟩ := List.findIdx?_eq_some_iff_getElem.1 hn
  have HNF := hid hnf
  have HNB := hid hnb
  clear hl hK hn hnf hnb
  go_enter Tryz.func65, Tryz.ntmps65
  go_wp2
  go_loopw [8] (fun i wr => ∃ k : Nat, k ≤ n ∧ i = .int .i64 k ∧ Below w.heap.size w wr) (fun i _ => l.length - (intOf i).toNat)
  case atStart => exact ⟨0, Nat.zero_le _, rfl, Below.refl _ _⟩
  case round =>
    obtain ⟨k, hk, rfl, hbw⟩ := hrel
    have hlt : k < l.length := by omega
    obtain ⟨hc, hf⟩ := bcell hbw
    obtain ⟨b, off, rfl, hb, c0, c1, c2, c3, c4, c5, c6, c7⟩ := HL.out k l[k] (by simp)
    rcases Nat.lt_or_ge k n with h | h
    · have hx : f l[k] = false := by simpa using HNB.out k h
      have HXM := hid (show l[k] ∈ l from List.getElem_mem _)
      generalize l[k] = x at hx HXM c0 c1 c2 c3 c4 c5 c6 c7
      go_wp2_with (go_at_call 66; refine (HK.out x _ HXM.out bel).mono ?_; rw [hx]; rintro e w1 ⟨rfl, hb1⟩)
      exact ⟨⟨k + 1, by omega, by go_num, bel⟩, by simp [intOf]; omega⟩
    · have e : k = n := by omega
      subst e
      have hx : f l[k] = true := HNF.out
      have HXM := hid (show l[k] ∈ l from List.getElem_mem _)
      generalize l[k] = x at hx HXM c0 c1 c2 c3 c4 c5 c6 c7
      go_wp2_with (go_at_call 66; refine (HK.out x _ HXM.out bel).mono ?_; rw [hx]; rintro e w1 ⟨rfl, hb1⟩)
      go_ret
      exact ⟨rfl, bel⟩
theorem decides_any (l : List DRow) (k : DPkt) (n : Nat) (r : DRow) (a : Option Addr) (cap : Nat) (w : World) (hl : rdRows w.heap.size w a l) (hok : ∀ x ∈ l, rowOk x = true) (hk : pktOk k = true) (hn : l.findIdx? (rowFits k) = some n) (hr : l[n]? = some r) :
    Calls Tryz.prog 37 #[.slice a l.length cap, .agg #[.int .i64 k.src, .int .i64 k.dst, .int .i64 k.proto, .int .i64 k.port]] w fun e w' => e = .returned (.tuple #[.bool r.allow, .int .i64 n]) ∧ Below w.heap.size w w' := by
  have HL := hid hl
  have HOK := hid hok
  have HK := hid hk
  have HN := hid hn
  have hlen := hl.1
  obtain ⟨b, off, rfl, hb, c0, c1, c2, c3, c4, c5, c6, c7⟩ := hl.2 n r hr
  have hnl : n < l.length := (List.getElem?_eq_some_iff.1 hr).1
  have i0 : (0 : Int) ≤ (n : Int) := by omega
  have i1 : (n : Int) < (l.length : Int) := by omega
  have hmf := mkFunc
  clear hl hok hk hn hr c0 c1 c2 c3 c4 c5 c6
  go_enter Tryz.func37, Tryz.ntmps37
  go_wp2_with (go_at_call 65; go_must (refine (indexFunc_any (rowFits k) _ _ _ n _ _ (rdRows.to HL.out bel) HN.out (fun x w2 hx hb2 => decClo x k _ w2 (HOK.out x hx) HK.out (cell_to (by simp [go_sem]) hb2) (cell_to (by simp [go_sem]) hb2) (cell_to (by simp [go_sem]) hb2) (cell_to (by simp [go_sem]) hb2))).mono ?_); rintro e w1 ⟨rfl, hb1⟩; have d7 := cell_to c7 (show Below w.heap.size w w1 from bel))
  go_ret2
  exact ⟨rfl, bel⟩
end Go.Proofs.YtmkjlhplgcifiaaGreat
namespace Go.Proofs.YtmkjlhplgcifiaaGreat
set_option linter.unusedVariables false
set_option linter.unusedSimpArgs false
theorem has_one (ip a : Int) : blkHas a ⟨ip, 32⟩ = decide (a = ip) := by simp [blkHas, pw]
theorem has_all (a : Int) (h0 : 0 ≤ a) (h1 : a ≤ 4294967295) : blkHas a ⟨0, 0⟩ = true := by
  have e : pw 0 = 4294967296 := by decide
  simp only [blkHas, e, decide_eq_true_eq]
  omega
theorem every_fits (k : DPkt) (hk : pktOk k = true) : prtFits k ⟨0, 0, 65535⟩ = true := by
  simp only [pktOk, Bool.and_eq_true, btw, decide_eq_true_eq] at hk
  simp [prtFits, btw, hk]
theorem one_ok {ip : Int} (h0 : 0 ≤ ip) (h1 : ip ≤ 4294967295) : blkOk ⟨ip, 32⟩ = true := blkOk_true.2 ⟨by show (0 : Int) ≤ 32; decide, by show (32 : Int) ≤ 32; decide, h0, h1, by show ip % pw 32 = 0; rw [show pw 32 = 1 by decide]; omega⟩
theorem all_ok : blkOk ⟨0, 0⟩ = true := by decide
theorem every_ok : prtOk ⟨0, 0, 65535⟩ = true := by decide
theorem pBlocks_ok {pods : List DPod} {space : Int} {x : DPeer} (ho : podsOk pods) (hx : peerOk x = true) : ∀ b ∈ pBlocks pods space x, blkOk b = true := by
  intro b hb
  unfold pBlocks at hb
  split at hb
  · obtain ⟨p, hp, rfl⟩ := List.mem_map.1 hb
    have := (podOk_true.1 (ho.1 p (List.mem_filter.1 hp).1)).2.1
    exact one_ok this.1 this.2
  · rename_i hk
    obtain ⟨_, h2, h3⟩ := peerOk_blocks' hx hk
    exact wout_ok 33 _ _ h2 h3 b hb
theorem pBlocks_has {pods : List DPod} {space : Int} {x : DPeer} (ho : podsOk pods) (hx : peerOk x = true) (h0 : 0 ≤ space) (h1 : space ≤ 3) (ip : Int) : (pBlocks pods space x).any (blkHas ip) = peerHas pods space ip x := by
  unfold pBlocks
  split
  · rename_i hk
    rw [← peerHas_pods pods space ip x hk ho h0 h1, List.any_map]
    unfold chosen
    rw [List.any_filter]
    congr 1
    funext p
    simp only [Function.comp, has_one]
    rw [Bool.and_comm, show (decide (ip = p.ip)) = decide (p.ip = ip) from by simp [eq_comm]]
  · rename_i hk
    obtain ⟨h1, h2, h3⟩ := peerOk_blocks' hx hk
    rw [wout_has 33 _ _ ip h2 h3 (by have := (blkOk_true.1 h2).1; show 33 - x.bits ≤ (33 : Nat); have : 0 ≤ x.bits := this; omega), peerHas, if_pos h1]
theorem dfars_ok {pods : List DPod} {space : Int} {r : DRule} (ho : podsOk pods) (hr : rulOk r = true) : ∀ b ∈ dfars pods space r, blkOk b = true := by
  intro b hb
  unfold dfars at hb
  split at hb
  · simp at hb; subst hb; exact all_ok
  · obtain ⟨x, hx, hb⟩ := List.mem_flatMap.1 hb
    exact pBlocks_ok ho ((rulOk_true hr).1 x hx) b hb
theorem dfars_has {pods : List DPod} {space : Int} {r : DRule} (ho : podsOk pods) (hr : rulOk r = true) (h0 : 0 ≤ space) (h1 : space ≤ 3) (ip : Int) (i0 : 0 ≤ ip) (i1 : ip ≤ 4294967295) : (dfars pods space r).any (blkHas ip) = eoa r.peers (peerHas pods space ip) := by
  unfold dfars eoa
  split
  · rename_i h; simp [has_all ip i0 i1, h]
  · rename_i h
    rw [List.any_flatMap, decide_eq_false h, Bool.false_or, Bool.eq_iff_iff, List.any_eq_true, List.any_eq_true]
    constructor
    · rintro ⟨x, hx, hh⟩
      exact ⟨x, hx, by rw [← pBlocks_has ho ((rulOk_true hr).1 x hx) h0 h1]; exact hh⟩
    · rintro ⟨x, hx, hh⟩
      exact ⟨x, hx, by rw [pBlocks_has ho ((rulOk_true hr).1 x hx) h0 h1]; exact hh⟩
theorem dports_ok {r : DRule} (hr : rulOk r = true) : ∀ p ∈ dports r, prtOk p = true := by
  intro p hp
  unfold dports at hp
  split at hp
  · simp at hp; subst hp; exact every_ok
  · exact (rulOk_true hr).2 p hp
theorem dports_fits (r : DRule) (k : DPkt) (hk : pktOk k = true) : (dports r).any (prtFits k) = eoa r.ports (prtFits k) := by
  unfold dports eoa
  split
  · rename_i h; simp [every_fits k hk, h]
  · rename_i h; rw [decide_eq_false h, Bool.false_or]
def gapFits (k : DPkt) (far : Int) (g : DGap) : Bool := blkHas far g.far && prtFits k g.port
theorem rgaps_fits {pods : List DPod} {space : Int} {r : DRule} (ho : podsOk pods) (hr : rulOk r = true) (h0 : 0 ≤ space) (h1 : space ≤ 3) (k : DPkt) (hk : pktOk k = true) (ip : Int) (i0 : 0 ≤ ip) (i1 : ip ≤ 4294967295) : (rgaps pods space r).any (gapFits k ip) = ruleFits pods space k ip r := by
  rw [ruleFits, ← dfars_has ho hr h0 h1 ip i0 i1, ← dports_fits r k hk, rgaps, List.any_flatMap]
  rw [Bool.eq_iff_iff, List.any_eq_true, Bool.and_eq_true, List.any_eq_true, List.any_eq_true]
  constructor
  · rintro ⟨f, hf, h⟩
    rw [fgaps, List.any_map, List.any_eq_true] at h
    obtain ⟨p, hp, h⟩ := h
    simp only [Function.comp, gapFits, Bool.and_eq_true] at h
    exact ⟨⟨f, hf, h.1⟩, p, hp, h.2⟩
  · rintro ⟨⟨f, hf, h⟩, p, hp, h'⟩
    refine ⟨f, hf, ?_⟩
    rw [fgaps, List.any_map, List.any_eq_true]
    exact ⟨p, hp, by simp [Function.comp, gapFits, h, h']⟩
theorem rules_ok {q : DPol} {way : Int} (hq : polOk q = true) : ∀ r ∈ rulesOf q way, rulOk r = true := by
  unfold rulesOf
  split
  · exact polOk_outs hq
  · exact polOk_ins hq
theorem pol_space {q : DPol} (hq : polOk q = true) : 0 ≤ q.space ∧ q.space ≤ 3 := by
  have := polOk_space hq
  simpa [btw] using this
theorem gaps_fits {pods : List DPod} {way : Int} {q : DPol} (ho : podsOk pods) (hq : polOk q = true) (k : DPkt) (hk : pktOk k = true) (ip : Int) (i0 : 0 ≤ ip) (i1 : ip ≤ 4294967295) : (gapsOf pods way q).any (gapFits k ip) = letsGo pods way k ip q := by
  rw [letsGo, gapsOf, List.any_flatMap, Bool.eq_iff_iff, List.any_eq_true, List.any_eq_true]
  have hs := pol_space hq
  constructor
  · rintro ⟨r, hr, h⟩
    exact ⟨r, hr, by rw [← rgaps_fits ho (rules_ok hq r hr) hs.1 hs.2 k hk ip i0 i1]; exact h⟩
  · rintro ⟨r, hr, h⟩
    exact ⟨r, hr, by rw [rgaps_fits ho (rules_ok hq r hr) hs.1 hs.2 k hk ip i0 i1]; exact h⟩
theorem gaps_ok {pods : List DPod} {way : Int} {q : DPol} (ho : podsOk pods) (hq : polOk q = true) : ∀ g ∈ gapsOf pods way q, blkOk g.far = true ∧ prtOk g.port = true := by
  intro g hg
  obtain ⟨r, hr, hg⟩ := List.mem_flatMap.1 hg
  obtain ⟨f, hf, hg⟩ := List.mem_flatMap.1 hg
  obtain ⟨p, hp, rfl⟩ := List.mem_map.1 hg
  exact ⟨dfars_ok ho (rules_ok hq r hr) f hf, dports_ok (rules_ok hq r hr) p hp⟩
/-! ### rows -/
def nearOf (way : Int) (k : DPkt) : Int := if way = 1 then k.src else k.dst
def farOf (way : Int) (k : DPkt) : Int := if way = 1 then k.dst else k.src
theorem mkRow_fits (way : Int) (near far : DBlk) (p : DPort) (b : Bool) (k : DPkt) : rowFits k (mkRow way near far p b) = (blkHas (nearOf way k) near && (blkHas (farOf way k) far && prtFits k p)) := by
  unfold mkRow nearOf farOf rowFits
  split
  · simp [Bool.and_assoc]
  · show (blkHas k.src far && blkHas k.dst near && _) = _
    rw [Bool.and_comm (blkHas k.src far), Bool.and_assoc]
theorem mkRow_ok {way : Int} {near far : DBlk} {p : DPort} {b : Bool} (h1 : blkOk near = true) (h2 : blkOk far = true) (h3 : prtOk p = true) : rowOk (mkRow way near far p b) = true := by
  unfold mkRow
  split
  · exact rowOk_true.2 ⟨h1, h2, h3⟩
  · exact rowOk_true.2 ⟨h2, h1, h3⟩
theorem mkRow_allow (way : Int) (near far : DBlk) (p : DPort) (b : Bool) : (mkRow way near far p b).allow = b := by unfold mkRow; split <;> rfl
theorem near_in {k : DPkt} (hk : pktOk k = true) (way : Int) : (0 ≤ nearOf way k ∧ nearOf way k ≤ 4294967295) ∧ 0 ≤ farOf way k ∧ farOf way k ≤ 4294967295 := by
  simp only [pktOk, Bool.and_eq_true, btw, decide_eq_true_eq] at hk
  unfold nearOf farOf
  split <;> omega
theorem last_fits {k : DPkt} (hk : pktOk k = true) : rowFits k lastRow = true := by
  have h := hk
  simp only [pktOk, Bool.and_eq_true, btw, decide_eq_true_eq] at h
  show (blkHas k.src ⟨0, 0⟩ && blkHas k.dst ⟨0, 0⟩ && prtFits k ⟨0, 0, 65535⟩) = true
  rw [has_all _ h.1.1.1.1 h.1.1.1.2, has_all _ h.1.1.2.1 h.1.1.2.2, every_fits k hk]; rfl
theorem last_ok : rowOk lastRow = true := by decide
def says (k : DPkt) (L : List DRow) : Option Bool := (L.find? (rowFits k)).map (·.allow)
theorem says_append (k : DPkt) (A B : List DRow) : says k (A ++ B) = (says k A).or (says k B) := by
  unfold says
  rw [List.find?_append]
  cases A.find? (rowFits k) <;> rfl
theorem allow_ok {c : DClu} {way : Int} {p : DPod} (hc : cluOk c) (hp : podOk p = true) : ∀ r ∈ allowRows c way p, rowOk r = true ∧ r.allow = true := by
  intro r hr
  obtain ⟨q, hq, hr⟩ := List.mem_flatMap.1 hr
  obtain ⟨g, hg, rfl⟩ := List.mem_map.1 hr
  have hg := gaps_ok hc.1 (hc.2 q (List.mem_filter.1 hq).1) g hg
  have hip := (podOk_true.1 hp).2.1
  exact ⟨mkRow_ok (one_ok hip.1 hip.2) hg.1 hg.2, mkRow_allow _ _ _ _ _⟩
theorem allow_fits {c : DClu} {way : Int} {p : DPod} (hc : cluOk c) (k : DPkt) (hk : pktOk k = true) : (allowRows c way p).any (rowFits k) = (decide (nearOf way k = p.ip) && (c.pols.filter (applies way p)).any (letsGo c.pods way k (farOf way k))) := by
  have hn := near_in hk way
  unfold allowRows
  rw [List.any_flatMap, Bool.eq_iff_iff, Bool.and_eq_true, List.any_eq_true, List.any_eq_true, decide_eq_true_eq]
  constructor
  · rintro ⟨q, hq, h⟩
    rw [polRows, List.any_map, List.any_eq_true] at h
    obtain ⟨g, hg, h⟩ := h
    simp only [Function.comp, gapRow, mkRow_fits, has_one, Bool.and_eq_true, decide_eq_true_eq] at h
    refine ⟨h.1, q, hq, ?_⟩
    rw [← gaps_fits hc.1 (hc.2 q (List.mem_filter.1 hq).1) k hk _ hn.2.1 hn.2.2, List.any_eq_true]
    exact ⟨g, hg, by simp [gapFits, h.2]⟩
  · rintro ⟨e, q, hq, h⟩
    refine ⟨q, hq, ?_⟩
    rw [← gaps_fits hc.1 (hc.2 q (List.mem_filter.1 hq).1) k hk _ hn.2.1 hn.2.2, List.any_eq_true] at h
    obtain ⟨g, hg, h⟩ := h
    rw [polRows, List.any_map, List.any_eq_true]
    simp only [gapFits, Bool.and_eq_true] at h
    exact ⟨g, hg, by simp [Function.comp, gapRow, mkRow_fits, has_one, e, h]⟩
theorem pod_says {c : DClu} {way : Int} {p : DPod} {L : List DRow} (hc : cluOk c) (hp : podOk p = true) (h : PodRows c way p L) (k : DPkt) (hk : pktOk k = true) :
    (∀ r ∈ L, rowOk r = true) ∧ says k L = if nearOf way k = p.ip then (if c.pols.filter (applies way p) = [] then none else some ((c.pols.filter (applies way p)).any (letsGo c.pods way k (farOf way k)))) else none := by
  have hn := near_in hk way
  have hip := (podOk_true.1 hp).2.1
  rcases h with ⟨h1, rfl⟩ | ⟨h1, A, hA, _, rfl⟩
  · exact ⟨fun r hr => by simp at hr, by simp [says, h1]⟩
  · refine ⟨fun r hr => ?_, ?_⟩
    · rcases List.mem_append.1 hr with h | h
      · exact (allow_ok hc hp r ((hA r).1 h)).1
      · simp at h; subst h; exact mkRow_ok (one_ok hip.1 hip.2) all_ok every_ok
    · have hany : A.any (rowFits k) = (allowRows c way p).any (rowFits k) := by
        rw [Bool.eq_iff_iff, List.any_eq_true, List.any_eq_true]
        exact ⟨fun ⟨r, hr, h⟩ => ⟨r, (hA r).1 hr, h⟩, fun ⟨r, hr, h⟩ => ⟨r, (hA r).2 hr, h⟩⟩
      rw [allow_fits hc k hk] at hany
      have hsA : says k A = if (decide (nearOf way k = p.ip) && (c.pols.filter (applies way p)).any (letsGo c.pods way k (farOf way k))) = true then some true else none := by
        unfold says
        cases hf : A.find? (rowFits k) with
        | none =>
          have : A.any (rowFits k) = false := by
            rw [Bool.eq_false_iff]
            intro h
            obtain ⟨r, hr, h⟩ := List.any_eq_true.1 h
            exact List.find?_eq_none.1 hf r hr h
          rw [hany] at this
          rw [this]; rfl
        | some r =>
          have hm := List.mem_of_find?_eq_some hf
          have : A.any (rowFits k) = true := List.any_eq_true.2 ⟨r, hm, List.find?_some hf⟩
          rw [hany] at this
          rw [this, if_pos rfl]
          show some r.allow = _
          rw [(allow_ok hc hp r ((hA r).1 hm)).2]
      have hd : says k [denyRow way p] = if nearOf way k = p.ip then some false else none := by
        unfold says
        rw [List.find?_singleton]
        have : rowFits k (denyRow way p) = decide (nearOf way k = p.ip) := by
          rw [denyRow, mkRow_fits, has_one, has_all _ hn.2.1 hn.2.2, every_fits k hk]; simp
        rw [this]
        by_cases e : nearOf way k = p.ip
        · simp [e, denyRow, mkRow_allow]
        · simp [e]
      rw [says_append, hsA, hd]
      by_cases e : nearOf way k = p.ip
      · simp only [e, decide_true, Bool.true_and, if_true, if_neg h1]
        cases (c.pols.filter (applies way p)).any (letsGo c.pods way k (farOf way k)) <;> rfl
      · simp [e]
theorem tab_says {c : DClu} {way host : Int} (hc : cluOk c) (k : DPkt) (hk : pktOk k = true) : ∀ {ps : List DPod} {L : List DRow}, TabRows c way host ps L → (∀ p ∈ ps, podOk p = true) → (ps.Pairwise fun a b => a.ip ≠ b.ip) →
    (∀ r ∈ L, rowOk r = true) ∧ says k L = match podAt ps (nearOf way k) with | none => none | some p => if p.host = host ∧ ¬ c.pols.filter (applies way p) = [] then some ((c.pols.filter (applies way p)).any (letsGo c.pods way k (farOf way k))) else none
  | [], L, h, _, _ => by have h : L = [] := h; subst h; exact ⟨fun r hr => by simp at hr, rfl⟩
  | p :: ps, L, ⟨A, B, h1, h2, h3⟩, ho, hw => by
    obtain ⟨hw1, hw2⟩ := List.pairwise_cons.1 hw
    obtain ⟨hB, hsB⟩ := tab_says hc k hk h2 (fun q hq => ho q (List.mem_cons_of_mem _ hq)) hw2
    have hpA : (∀ r ∈ A, rowOk r = true) ∧ says k A = if nearOf way k = p.ip ∧ p.host = host then (if c.pols.filter (applies way p) = [] then none else some ((c.pols.filter (applies way p)).any (letsGo c.pods way k (farOf way k)))) else none := by
      split at h1
      · rename_i hh
        obtain ⟨x, y⟩ := pod_says hc (ho p (List.mem_cons_self ..)) h1 k hk
        exact ⟨x, by rw [y]; simp [hh]⟩
      · rename_i hh
        subst h1
        exact ⟨fun r hr => by simp at hr, by simp [says, hh]⟩
    subst h3
    refine ⟨fun r hr => ?_, ?_⟩
    · rcases List.mem_append.1 hr with h | h
      · exact hpA.1 r h
      · exact hB r h
    · rw [says_append, hpA.2, hsB]
      unfold podAt
      rw [List.find?_cons]
      by_cases e : nearOf way k = p.ip
      · have hnone : ps.find? (fun q => decide (q.ip = nearOf way k)) = none := by
          rw [List.find?_eq_none]
          intro q hq
          have := hw1 q hq
          simp only [decide_eq_true_eq]
          intro e2
          exact this (by rw [← e, e2])
        rw [hnone]
        simp only [e, true_and, decide_true, Option.or_none]
        by_cases hh : p.host = host
        · by_cases hf : c.pols.filter (applies way p) = []
          · simp [hh, hf]
          · simp only [hh, if_true, if_neg hf, true_and, not_false_iff]; rw [if_pos hf]
        · simp [hh]
      · rw [if_neg (fun h => e h.1), Option.none_or]
        have : decide (p.ip = nearOf way k) = false := decide_eq_false (fun h => e h.symm)
        rw [this]
def decd (c : DClu) (host way : Int) (k : DPkt) : Bool := match podAt c.pods (nearOf way k) with | none => true | some p => if p.host = host then may c way k (nearOf way k) (farOf way k) else true
theorem find_idx {α : Type} (f : α → Bool) : ∀ (l : List α) (r : α), l.find? f = some r → ∃ n, l.findIdx? f = some n ∧ l[n]? = some r
  | [], _, h => by simp at h
  | a :: t, r, h => by
    rw [List.find?_cons] at h
    rw [List.findIdx?_cons]
    cases e : f a
    · rw [e] at h
      obtain ⟨n, h1, h2⟩ := find_idx f t r h
      exact ⟨n + 1, by simp [h1], by simpa using h2⟩
    · rw [e] at h
      exact ⟨0, by simp, by simpa using h⟩
theorem tab_decides {c : DClu} {way host : Int} {L : List DRow} (hc : cluOk c) (hT : TabRows c way host c.pods L) (k : DPkt) (hk : pktOk k = true) :
    ∃ n r, (L ++ [lastRow]).findIdx? (rowFits k) = some n ∧ (L ++ [lastRow])[n]? = some r ∧ r.allow = decd c host way k := by
  obtain ⟨hok, hs⟩ := tab_says hc k hk hT hc.1.1 hc.1.2
  have hall : says k (L ++ [lastRow]) = some (decd c host way k) := by
    have hl : says k [lastRow] = some true := by unfold says; rw [List.find?_singleton, last_fits hk]; rfl
    rw [says_append, hs, hl]
    unfold decd
    cases hp : podAt c.pods (nearOf way k) with
    | none => rfl
    | some p =>
      have hm := may_held (k := k) (way := way) (far := farOf way k) hp
      simp only []
      by_cases hh : p.host = host
      · by_cases hf : c.pols.filter (applies way p) = []
        · rw [hm, hf]; simp [hh, eoa]
        · rw [hm, if_pos ⟨hh, hf⟩, if_pos hh]
          unfold eoa
          rw [decide_eq_false (by intro h; exact hf (List.length_eq_zero_iff.1 h))]; rfl
      · simp [hh]
  unfold says at hall
  cases hf : (L ++ [lastRow]).find? (rowFits k) with
  | none => rw [hf] at hall; cases hall
  | some r =>
    rw [hf] at hall
    obtain ⟨n, h1, h2⟩ := find_idx _ _ _ hf
    exact ⟨n, r, h1, h2, by simpa using hall⟩
def pkt0 : DPkt := ⟨0, 0, 1, 0⟩
theorem tab_ok {c : DClu} {way host : Int} {L : List DRow} (hc : cluOk c) (hT : TabRows c way host c.pods L) : ∀ r ∈ L ++ [lastRow], rowOk r = true := by
  intro r hr
  rcases List.mem_append.1 hr with h | h
  · exact (tab_says hc pkt0 (by decide) hT hc.1.1 hc.1.2).1 r h
  · simp at h; subst h; exact last_ok
theorem tab_len {c : DClu} {way host : Int} {L : List DRow} (hc : cluOk c) (hpl : c.pods.length ≤ 8) (hql : c.pols.length ≤ 4) (hT : TabRows c way host c.pods L) : (L ++ [lastRow]).length ≤ 16649 := by
  have := tabRows_le hc hpl hql hT
  rw [List.length_append]
  simp
  omega
theorem decd_all {c : DClu} (hc : cluOk c) (k : DPkt) (way : Int) : (decd c 0 way k && decd c 1 way k && decd c 2 way k && decd c 3 way k) = may c way k (nearOf way k) (farOf way k) := by
  unfold decd
  cases hp : podAt c.pods (nearOf way k) with
  | none => rw [may_none hp]; rfl
  | some p =>
    have hh := (podOk_true.1 (hc.1.1 p (List.mem_of_find?_eq_some hp))).1
    have : p.host = 0 ∨ p.host = 1 ∨ p.host = 2 ∨ p.host = 3 := by omega
    simp only []
    rcases this with h | h | h | h <;> simp [h]
end Go.Proofs.YtmkjlhplgcifiaaGreat
