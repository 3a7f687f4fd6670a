/-
  palisadelaw: admitted, walked: Admits answers as the document says.
-/
import Derived.Test.YtmkjlhplgcifiaaGreatH32
import Derived.Test.YtmkjlhplgcifiaaGreatH28
import Derived.Test.YtmkjlhplgcifiaaGreatH29
import Derived.Test.YtmkjlhplgcifiaaGreatH39
namespace Go.Proofs.YtmkjlhplgcifiaaGreat
open Go.ChangeShapes Go.WideShapes Go.ChangeAt Go.RowKit
set_option linter.unusedVariables false
set_option linter.unusedSimpArgs false
attribute [local simp] World.cell?_grow World.cell?_alloc_there
attribute [local go_sem] World.cell?_grow World.cell?_alloc_there eqg_blk std_blk eqg_pod std_pod eqg_sel std_sel eqg_prt std_prt eqg_row std_row
attribute [local go_sem ↓] eql_blk eql_sel neq_sel eql_prt eql_pod met_in1 met_in2 met_re1 met_re2 met_has1 met_has2 met_bl1 met_bl2 neq_row
set_option maxRecDepth 100000 in
set_option maxHeartbeats 2000000 in
theorem admitted_bad (kd on oa ob d0 d1 d2 d3 q0 q1 q2 q3 : Int) (s4 s5 s18 s19 : DSl) (k : DPkt) (tb rb : Nat) (w : World) (hk : pktOk k = false) :
    Calls Tryz.prog 53 #[.agg #[.pointer (some ⟨tb, 0, none⟩), .pointer (some ⟨rb, 0, none⟩)], .agg #[.int .i64 kd, .int .i64 on, .int .i64 oa, .int .i64 ob, .slice s4.a s4.n s4.c, .slice s5.a s5.n s5.c, .int .i64 k.src, .int .i64 k.dst, .int .i64 k.proto, .int .i64 k.port, .int .i64 d0, .int .i64 d1, .int .i64 d2, .int .i64 d3, .int .i64 q0, .int .i64 q1, .int .i64 q2, .int .i64 q3, .slice s18.a s18.n s18.c, .slice s19.a s19.n s19.c]] w fun e w' => e = .returned (.bool true) ∧ Below w.heap.size w w' := by
  have HK := hid hk
  clear hk
  go_enter Tryz.func53, Tryz.ntmps53
  go_wp2_with fail
  refine (admits_bad tb k _ HK.out).mono ?_
  rintro e w1 ⟨rfl, hb1⟩
  have s6 : w1.cell? ⟨w.heap.size + 1, 6, none⟩ = some (.int .i64 k.src) := cell_to (w := ((w.alloc (.cells #[.pointer (some ⟨tb, 0, none⟩), .pointer (some ⟨rb, 0, none⟩)] 119)).alloc (.cells #[.int .i64 kd, .int .i64 on, .int .i64 oa, .int .i64 ob, .slice s4.a s4.n s4.c, .slice s5.a s5.n s5.c, .int .i64 k.src, .int .i64 k.dst, .int .i64 k.proto, .int .i64 k.port, .int .i64 d0, .int .i64 d1, .int .i64 d2, .int .i64 d3, .int .i64 q0, .int .i64 q1, .int .i64 q2, .int .i64 q3, .slice s18.a s18.n s18.c, .slice s19.a s19.n s19.c] 88))) (by simp [go_sem]) hb1
  have s7 : w1.cell? ⟨w.heap.size + 1, 7, none⟩ = some (.int .i64 k.dst) := cell_to (w := ((w.alloc (.cells #[.pointer (some ⟨tb, 0, none⟩), .pointer (some ⟨rb, 0, none⟩)] 119)).alloc (.cells #[.int .i64 kd, .int .i64 on, .int .i64 oa, .int .i64 ob, .slice s4.a s4.n s4.c, .slice s5.a s5.n s5.c, .int .i64 k.src, .int .i64 k.dst, .int .i64 k.proto, .int .i64 k.port, .int .i64 d0, .int .i64 d1, .int .i64 d2, .int .i64 d3, .int .i64 q0, .int .i64 q1, .int .i64 q2, .int .i64 q3, .slice s18.a s18.n s18.c, .slice s19.a s19.n s19.c] 88))) (by simp [go_sem]) hb1
  have s8 : w1.cell? ⟨w.heap.size + 1, 8, none⟩ = some (.int .i64 k.proto) := cell_to (w := ((w.alloc (.cells #[.pointer (some ⟨tb, 0, none⟩), .pointer (some ⟨rb, 0, none⟩)] 119)).alloc (.cells #[.int .i64 kd, .int .i64 on, .int .i64 oa, .int .i64 ob, .slice s4.a s4.n s4.c, .slice s5.a s5.n s5.c, .int .i64 k.src, .int .i64 k.dst, .int .i64 k.proto, .int .i64 k.port, .int .i64 d0, .int .i64 d1, .int .i64 d2, .int .i64 d3, .int .i64 q0, .int .i64 q1, .int .i64 q2, .int .i64 q3, .slice s18.a s18.n s18.c, .slice s19.a s19.n s19.c] 88))) (by simp [go_sem]) hb1
  have s9 : w1.cell? ⟨w.heap.size + 1, 9, none⟩ = some (.int .i64 k.port) := cell_to (w := ((w.alloc (.cells #[.pointer (some ⟨tb, 0, none⟩), .pointer (some ⟨rb, 0, none⟩)] 119)).alloc (.cells #[.int .i64 kd, .int .i64 on, .int .i64 oa, .int .i64 ob, .slice s4.a s4.n s4.c, .slice s5.a s5.n s5.c, .int .i64 k.src, .int .i64 k.dst, .int .i64 k.proto, .int .i64 k.port, .int .i64 d0, .int .i64 d1, .int .i64 d2, .int .i64 d3, .int .i64 q0, .int .i64 q1, .int .i64 q2, .int .i64 q3, .slice s18.a s18.n s18.c, .slice s19.a s19.n s19.c] 88))) (by simp [go_sem]) hb1
  have p1 : w1.cell? ⟨w.heap.size, 1, none⟩ = some (.pointer (some ⟨rb, 0, none⟩)) := cell_to (w := ((w.alloc (.cells #[.pointer (some ⟨tb, 0, none⟩), .pointer (some ⟨rb, 0, none⟩)] 119)).alloc (.cells #[.int .i64 kd, .int .i64 on, .int .i64 oa, .int .i64 ob, .slice s4.a s4.n s4.c, .slice s5.a s5.n s5.c, .int .i64 k.src, .int .i64 k.dst, .int .i64 k.proto, .int .i64 k.port, .int .i64 d0, .int .i64 d1, .int .i64 d2, .int .i64 d3, .int .i64 q0, .int .i64 q1, .int .i64 q2, .int .i64 q3, .slice s18.a s18.n s18.c, .slice s19.a s19.n s19.c] 88))) (by simp [go_sem]) hb1
  have HB1 := hid (show Below w.heap.size w w1 from Ext.trans (show Below w.heap.size w ((w.alloc (.cells #[.pointer (some ⟨tb, 0, none⟩), .pointer (some ⟨rb, 0, none⟩)] 119)).alloc (.cells #[.int .i64 kd, .int .i64 on, .int .i64 oa, .int .i64 ob, .slice s4.a s4.n s4.c, .slice s5.a s5.n s5.c, .int .i64 k.src, .int .i64 k.dst, .int .i64 k.proto, .int .i64 k.port, .int .i64 d0, .int .i64 d1, .int .i64 d2, .int .i64 d3, .int .i64 q0, .int .i64 q1, .int .i64 q2, .int .i64 q3, .slice s18.a s18.n s18.c, .slice s19.a s19.n s19.c] 88)) from bel) hb1)
  clear hb1
  go_wp2_with fail
  refine (refPkt_any k w1).mono ?_
  rw [HK.out]
  rintro e w2 ⟨rfl, hb2⟩
  have HB2 := hid (Ext.trans HB1.out hb2)
  clear s6 s7 s8 s9 p1 hb2
  go_wp2_with fail
  refine (num_any 4 _).mono ?_
  rintro e w3 ⟨rfl, rfl⟩
  go_wp2
  go_ret
  exact ⟨rfl, HB2.out⟩
set_option maxRecDepth 100000 in
set_option maxHeartbeats 2000000 in
theorem admitted_any (kd on oa ob d0 d1 d2 d3 q0 q1 q2 q3 : Int) (s4 s5 s18 s19 : DSl) (k : DPkt) (c : DClu) (T : Int × Int → List DRow) (tb rb : Nat) (pa qa : Option Addr) (pc qc : Nat) (w : World) (ht : TabsAs w.heap.size w tb c T) (r0 : w.cell? ⟨rb, 0, none⟩ = some (.slice pa c.pods.length pc)) (r1 : w.cell? ⟨rb, 1, none⟩ = some (.slice qa c.pols.length qc)) (hp : rdPods w.heap.size w pa c.pods) (hq : rdPols w.heap.size w qa c.pols) (hc : cluOk c) (hr : (right c).1 = 0) (hk : pktOk k = true) :
    Calls Tryz.prog 53 #[.agg #[.pointer (some ⟨tb, 0, none⟩), .pointer (some ⟨rb, 0, none⟩)], .agg #[.int .i64 kd, .int .i64 on, .int .i64 oa, .int .i64 ob, .slice s4.a s4.n s4.c, .slice s5.a s5.n s5.c, .int .i64 k.src, .int .i64 k.dst, .int .i64 k.proto, .int .i64 k.port, .int .i64 d0, .int .i64 d1, .int .i64 d2, .int .i64 d3, .int .i64 q0, .int .i64 q1, .int .i64 q2, .int .i64 q3, .slice s18.a s18.n s18.c, .slice s19.a s19.n s19.c]] w fun e w' => e = .returned (.bool true) ∧ Below w.heap.size w w' := by
  have HK := hid hk
  have HT := hid ht
  have HP := hid hp
  have HQ := hid hq
  have HC := hid hc
  have HA := hid (show allowed c k = (may c 1 k k.src k.dst && may c 2 k k.dst k.src, 0) by unfold allowed; rw [if_neg (by simp [hr]), if_neg (by simp [hk])])
  clear hk ht hp hq hc hr
  go_enter Tryz.func53, Tryz.ntmps53
  go_wp2_with fail
  have hbW : Below w.heap.size w ((w.alloc (.cells #[.pointer (some ⟨tb, 0, none⟩), .pointer (some ⟨rb, 0, none⟩)] 119)).alloc (.cells #[.int .i64 kd, .int .i64 on, .int .i64 oa, .int .i64 ob, .slice s4.a s4.n s4.c, .slice s5.a s5.n s5.c, .int .i64 k.src, .int .i64 k.dst, .int .i64 k.proto, .int .i64 k.port, .int .i64 d0, .int .i64 d1, .int .i64 d2, .int .i64 d3, .int .i64 q0, .int .i64 q1, .int .i64 q2, .int .i64 q3, .slice s18.a s18.n s18.c, .slice s19.a s19.n s19.c] 88)) := bel
  refine (admits_any c T tb k _ (HT.out.to hbW) HK.out HC.out).mono ?_
  rintro e w1 ⟨rfl, hb1⟩
  have s6 : w1.cell? ⟨w.heap.size + 1, 6, none⟩ = some (.int .i64 k.src) := cell_to (w := ((w.alloc (.cells #[.pointer (some ⟨tb, 0, none⟩), .pointer (some ⟨rb, 0, none⟩)] 119)).alloc (.cells #[.int .i64 kd, .int .i64 on, .int .i64 oa, .int .i64 ob, .slice s4.a s4.n s4.c, .slice s5.a s5.n s5.c, .int .i64 k.src, .int .i64 k.dst, .int .i64 k.proto, .int .i64 k.port, .int .i64 d0, .int .i64 d1, .int .i64 d2, .int .i64 d3, .int .i64 q0, .int .i64 q1, .int .i64 q2, .int .i64 q3, .slice s18.a s18.n s18.c, .slice s19.a s19.n s19.c] 88))) (by simp [go_sem]) hb1
  have s7 : w1.cell? ⟨w.heap.size + 1, 7, none⟩ = some (.int .i64 k.dst) := cell_to (w := ((w.alloc (.cells #[.pointer (some ⟨tb, 0, none⟩), .pointer (some ⟨rb, 0, none⟩)] 119)).alloc (.cells #[.int .i64 kd, .int .i64 on, .int .i64 oa, .int .i64 ob, .slice s4.a s4.n s4.c, .slice s5.a s5.n s5.c, .int .i64 k.src, .int .i64 k.dst, .int .i64 k.proto, .int .i64 k.port, .int .i64 d0, .int .i64 d1, .int .i64 d2, .int .i64 d3, .int .i64 q0, .int .i64 q1, .int .i64 q2, .int .i64 q3, .slice s18.a s18.n s18.c, .slice s19.a s19.n s19.c] 88))) (by simp [go_sem]) hb1
  have s8 : w1.cell? ⟨w.heap.size + 1, 8, none⟩ = some (.int .i64 k.proto) := cell_to (w := ((w.alloc (.cells #[.pointer (some ⟨tb, 0, none⟩), .pointer (some ⟨rb, 0, none⟩)] 119)).alloc (.cells #[.int .i64 kd, .int .i64 on, .int .i64 oa, .int .i64 ob, .slice s4.a s4.n s4.c, .slice s5.a s5.n s5.c, .int .i64 k.src, .int .i64 k.dst, .int .i64 k.proto, .int .i64 k.port, .int .i64 d0, .int .i64 d1, .int .i64 d2, .int .i64 d3, .int .i64 q0, .int .i64 q1, .int .i64 q2, .int .i64 q3, .slice s18.a s18.n s18.c, .slice s19.a s19.n s19.c] 88))) (by simp [go_sem]) hb1
  have s9 : w1.cell? ⟨w.heap.size + 1, 9, none⟩ = some (.int .i64 k.port) := cell_to (w := ((w.alloc (.cells #[.pointer (some ⟨tb, 0, none⟩), .pointer (some ⟨rb, 0, none⟩)] 119)).alloc (.cells #[.int .i64 kd, .int .i64 on, .int .i64 oa, .int .i64 ob, .slice s4.a s4.n s4.c, .slice s5.a s5.n s5.c, .int .i64 k.src, .int .i64 k.dst, .int .i64 k.proto, .int .i64 k.port, .int .i64 d0, .int .i64 d1, .int .i64 d2, .int .i64 d3, .int .i64 q0, .int .i64 q1, .int .i64 q2, .int .i64 q3, .slice s18.a s18.n s18.c, .slice s19.a s19.n s19.c] 88))) (by simp [go_sem]) hb1
  have p1 : w1.cell? ⟨w.heap.size, 1, none⟩ = some (.pointer (some ⟨rb, 0, none⟩)) := cell_to (w := ((w.alloc (.cells #[.pointer (some ⟨tb, 0, none⟩), .pointer (some ⟨rb, 0, none⟩)] 119)).alloc (.cells #[.int .i64 kd, .int .i64 on, .int .i64 oa, .int .i64 ob, .slice s4.a s4.n s4.c, .slice s5.a s5.n s5.c, .int .i64 k.src, .int .i64 k.dst, .int .i64 k.proto, .int .i64 k.port, .int .i64 d0, .int .i64 d1, .int .i64 d2, .int .i64 d3, .int .i64 q0, .int .i64 q1, .int .i64 q2, .int .i64 q3, .slice s18.a s18.n s18.c, .slice s19.a s19.n s19.c] 88))) (by simp [go_sem]) hb1
  have HB1 := hid (show Below w.heap.size w w1 from Ext.trans (show Below w.heap.size w ((w.alloc (.cells #[.pointer (some ⟨tb, 0, none⟩), .pointer (some ⟨rb, 0, none⟩)] 119)).alloc (.cells #[.int .i64 kd, .int .i64 on, .int .i64 oa, .int .i64 ob, .slice s4.a s4.n s4.c, .slice s5.a s5.n s5.c, .int .i64 k.src, .int .i64 k.dst, .int .i64 k.proto, .int .i64 k.port, .int .i64 d0, .int .i64 d1, .int .i64 d2, .int .i64 d3, .int .i64 q0, .int .i64 q1, .int .i64 q2, .int .i64 q3, .slice s18.a s18.n s18.c, .slice s19.a s19.n s19.c] 88)) from bel) hb1)
  have t0 := cell_to r0 HB1.out
  have t1 := cell_to r1 HB1.out
  clear hb1 hbW r0 r1
  generalize (may c 1 k k.src k.dst && may c 2 k k.dst k.src) = m at *
  go_wp2_with fail
  refine (refPkt_any k w1).mono ?_
  rw [HK.out]
  rintro e w2 ⟨rfl, hb2⟩
  have y6 := cell_to s6 hb2
  have y7 := cell_to s7 hb2
  have y8 := cell_to s8 hb2
  have y9 := cell_to s9 hb2
  have p2 := cell_to p1 hb2
  have v0 := cell_to t0 hb2
  have v1 := cell_to t1 hb2
  have HB2 := hid (Ext.trans HB1.out hb2)
  clear s6 s7 s8 s9 p1 t0 t1 hb2
  have HCL := hid (show ∀ u, Calls Tryz.prog 77 #[.agg #[.slice pa c.pods.length pc, .slice qa c.pols.length qc], .agg #[.int .i64 k.src, .int .i64 k.dst, .int .i64 k.proto, .int .i64 k.port]] (w2.grow u) fun e w' => e = .returned (.tuple #[.bool m, .int .i64 0]) ∧ Below (w2.grow u).heap.size (w2.grow u) w' from fun u => by
    have h := refAllowed_any c k pa qa pc qc (w2.grow u) (rdPods.to (rdPods.to HP.out HB2.out) (World.below_grow _ _)) (rdPols.to (rdPols.to HQ.out HB2.out) (World.below_grow _ _))
    rw [HA.out] at h
    exact h)
  go_wp2
  refine wp_region_grow (by kernel_rfl) (by kernel_rfl) ?_
  repeat (go_big_quiet_step (first
    | (go_at_call 77; exact Calls.grow_of (HCL.out _))))
  refine wpQuiet_nil ?_
  intro w1 hb1
  obtain ⟨hc1, hf1⟩ := bcell hb1
  have hz1 := hb_lt hb1
  have HB3 := hid (Ext.trans HB2.out hb1)
  clear hb1 hc1 hf1 hz1 y6 y7 y8 y9 p2 v0 v1
  cases m <;> (
    go_wp2_with fail
    refine (num_any 0 _).mono ?_
    rintro e w3 ⟨rfl, rfl⟩
    go_wp2
    go_ret
    exact ⟨rfl, HB3.out⟩)
def RowedOk (wb B : Nat) (vl vd : Value) (Ds : List DSl) (w w' : World) : Prop :=
  ∃ (w1 : World) (v : Value) (n : Nat), Below w.heap.size w w1 ∧ n ≤ 20000 ∧ (∀ g, v.ownBlock = some g → w.heap.size ≤ g) ∧ KeptOk wb B (w.heap.size + 2) vl vd v Ds n w1 w'
theorem refDec_any (c : DClu) (rb : Nat) (host way : Int) (k : DPkt) (pa qa : Option Addr) (pc qc : Nat) (w : World) (r0 : w.cell? ⟨rb, 0, none⟩ = some (.slice pa c.pods.length pc)) (r1 : w.cell? ⟨rb, 1, none⟩ = some (.slice qa c.pols.length qc)) (hp : rdPods w.heap.size w pa c.pods) (hq : rdPols w.heap.size w qa c.pols) (hc : cluOk c) (hm : (host, way) ∈ plist) (hk : pktOk k = true) :
    Calls Tryz.prog 79 #[.pointer (some ⟨rb, 0, none⟩), .int .i64 host, .int .i64 way, .agg #[.int .i64 k.src, .int .i64 k.dst, .int .i64 k.proto, .int .i64 k.port]] w fun e w' => e = .returned (.tuple #[.bool (decd c host way k), .int .i64 0]) ∧ Below w.heap.size w w' := by
  obtain ⟨⟨h0, h3⟩, rfl | rfl⟩ := (plist_mem _ _).1 hm
  · exact refDec_out c rb host k pa qa pc qc w r0 r1 hp hq hc h0 h3 hk
  · exact refDec_in c rb host k pa qa pc qc w r0 r1 hp hq hc h0 h3 hk
set_option maxRecDepth 100000 in
set_option maxHeartbeats 2000000 in
theorem rowed_none (kd on oa ob d0 d1 d2 d3 q0 q1 q2 q3 : Int) (s4 s5 s18 s19 : DSl) (k : DPkt) (c : DClu) (T : Int × Int → List DRow) (tb rb wb : Nat) (w : World) (ht : TabsAs w.heap.size w tb c T) (hm : (oa, ob) ∉ plist) :
    Calls Tryz.prog 51 #[.pointer (some ⟨wb, 0, none⟩), .agg #[.pointer (some ⟨tb, 0, none⟩), .pointer (some ⟨rb, 0, none⟩)], .agg #[.int .i64 kd, .int .i64 on, .int .i64 oa, .int .i64 ob, .slice s4.a s4.n s4.c, .slice s5.a s5.n s5.c, .int .i64 k.src, .int .i64 k.dst, .int .i64 k.proto, .int .i64 k.port, .int .i64 d0, .int .i64 d1, .int .i64 d2, .int .i64 d3, .int .i64 q0, .int .i64 q1, .int .i64 q2, .int .i64 q3, .slice s18.a s18.n s18.c, .slice s19.a s19.n s19.c]] w fun e w' => e = .returned (.bool true) ∧ Below w.heap.size w w' := by
  have HM := hid hm
  have HT := hid ht
  clear hm ht
  go_enter Tryz.func51, Tryz.ntmps51
  go_wp2_with fail
  have hbW : Below w.heap.size w ((w.alloc (.cells #[.pointer (some ⟨tb, 0, none⟩), .pointer (some ⟨rb, 0, none⟩)] 119)).alloc (.cells #[.int .i64 kd, .int .i64 on, .int .i64 oa, .int .i64 ob, .slice s4.a s4.n s4.c, .slice s5.a s5.n s5.c, .int .i64 k.src, .int .i64 k.dst, .int .i64 k.proto, .int .i64 k.port, .int .i64 d0, .int .i64 d1, .int .i64 d2, .int .i64 d3, .int .i64 q0, .int .i64 q1, .int .i64 q2, .int .i64 q3, .slice s18.a s18.n s18.c, .slice s19.a s19.n s19.c] 88)) := bel
  refine (rows_none c T tb oa ob _ (HT.out.to hbW) HM.out).mono ?_
  rintro e w1 ⟨rfl, hb1⟩
  have s2 : w1.cell? ⟨w.heap.size + 1, 2, none⟩ = some (.int .i64 oa) := cell_to (w := ((w.alloc (.cells #[.pointer (some ⟨tb, 0, none⟩), .pointer (some ⟨rb, 0, none⟩)] 119)).alloc (.cells #[.int .i64 kd, .int .i64 on, .int .i64 oa, .int .i64 ob, .slice s4.a s4.n s4.c, .slice s5.a s5.n s5.c, .int .i64 k.src, .int .i64 k.dst, .int .i64 k.proto, .int .i64 k.port, .int .i64 d0, .int .i64 d1, .int .i64 d2, .int .i64 d3, .int .i64 q0, .int .i64 q1, .int .i64 q2, .int .i64 q3, .slice s18.a s18.n s18.c, .slice s19.a s19.n s19.c] 88))) (by simp [go_sem]) hb1
  have s3 : w1.cell? ⟨w.heap.size + 1, 3, none⟩ = some (.int .i64 ob) := cell_to (w := ((w.alloc (.cells #[.pointer (some ⟨tb, 0, none⟩), .pointer (some ⟨rb, 0, none⟩)] 119)).alloc (.cells #[.int .i64 kd, .int .i64 on, .int .i64 oa, .int .i64 ob, .slice s4.a s4.n s4.c, .slice s5.a s5.n s5.c, .int .i64 k.src, .int .i64 k.dst, .int .i64 k.proto, .int .i64 k.port, .int .i64 d0, .int .i64 d1, .int .i64 d2, .int .i64 d3, .int .i64 q0, .int .i64 q1, .int .i64 q2, .int .i64 q3, .slice s18.a s18.n s18.c, .slice s19.a s19.n s19.c] 88))) (by simp [go_sem]) hb1
  have s6 : w1.cell? ⟨w.heap.size + 1, 6, none⟩ = some (.int .i64 k.src) := cell_to (w := ((w.alloc (.cells #[.pointer (some ⟨tb, 0, none⟩), .pointer (some ⟨rb, 0, none⟩)] 119)).alloc (.cells #[.int .i64 kd, .int .i64 on, .int .i64 oa, .int .i64 ob, .slice s4.a s4.n s4.c, .slice s5.a s5.n s5.c, .int .i64 k.src, .int .i64 k.dst, .int .i64 k.proto, .int .i64 k.port, .int .i64 d0, .int .i64 d1, .int .i64 d2, .int .i64 d3, .int .i64 q0, .int .i64 q1, .int .i64 q2, .int .i64 q3, .slice s18.a s18.n s18.c, .slice s19.a s19.n s19.c] 88))) (by simp [go_sem]) hb1
  have s7 : w1.cell? ⟨w.heap.size + 1, 7, none⟩ = some (.int .i64 k.dst) := cell_to (w := ((w.alloc (.cells #[.pointer (some ⟨tb, 0, none⟩), .pointer (some ⟨rb, 0, none⟩)] 119)).alloc (.cells #[.int .i64 kd, .int .i64 on, .int .i64 oa, .int .i64 ob, .slice s4.a s4.n s4.c, .slice s5.a s5.n s5.c, .int .i64 k.src, .int .i64 k.dst, .int .i64 k.proto, .int .i64 k.port, .int .i64 d0, .int .i64 d1, .int .i64 d2, .int .i64 d3, .int .i64 q0, .int .i64 q1, .int .i64 q2, .int .i64 q3, .slice s18.a s18.n s18.c, .slice s19.a s19.n s19.c] 88))) (by simp [go_sem]) hb1
  have s8 : w1.cell? ⟨w.heap.size + 1, 8, none⟩ = some (.int .i64 k.proto) := cell_to (w := ((w.alloc (.cells #[.pointer (some ⟨tb, 0, none⟩), .pointer (some ⟨rb, 0, none⟩)] 119)).alloc (.cells #[.int .i64 kd, .int .i64 on, .int .i64 oa, .int .i64 ob, .slice s4.a s4.n s4.c, .slice s5.a s5.n s5.c, .int .i64 k.src, .int .i64 k.dst, .int .i64 k.proto, .int .i64 k.port, .int .i64 d0, .int .i64 d1, .int .i64 d2, .int .i64 d3, .int .i64 q0, .int .i64 q1, .int .i64 q2, .int .i64 q3, .slice s18.a s18.n s18.c, .slice s19.a s19.n s19.c] 88))) (by simp [go_sem]) hb1
  have s9 : w1.cell? ⟨w.heap.size + 1, 9, none⟩ = some (.int .i64 k.port) := cell_to (w := ((w.alloc (.cells #[.pointer (some ⟨tb, 0, none⟩), .pointer (some ⟨rb, 0, none⟩)] 119)).alloc (.cells #[.int .i64 kd, .int .i64 on, .int .i64 oa, .int .i64 ob, .slice s4.a s4.n s4.c, .slice s5.a s5.n s5.c, .int .i64 k.src, .int .i64 k.dst, .int .i64 k.proto, .int .i64 k.port, .int .i64 d0, .int .i64 d1, .int .i64 d2, .int .i64 d3, .int .i64 q0, .int .i64 q1, .int .i64 q2, .int .i64 q3, .slice s18.a s18.n s18.c, .slice s19.a s19.n s19.c] 88))) (by simp [go_sem]) hb1
  have p0 : w1.cell? ⟨w.heap.size, 0, none⟩ = some (.pointer (some ⟨tb, 0, none⟩)) := cell_to (w := ((w.alloc (.cells #[.pointer (some ⟨tb, 0, none⟩), .pointer (some ⟨rb, 0, none⟩)] 119)).alloc (.cells #[.int .i64 kd, .int .i64 on, .int .i64 oa, .int .i64 ob, .slice s4.a s4.n s4.c, .slice s5.a s5.n s5.c, .int .i64 k.src, .int .i64 k.dst, .int .i64 k.proto, .int .i64 k.port, .int .i64 d0, .int .i64 d1, .int .i64 d2, .int .i64 d3, .int .i64 q0, .int .i64 q1, .int .i64 q2, .int .i64 q3, .slice s18.a s18.n s18.c, .slice s19.a s19.n s19.c] 88))) (by simp [go_sem]) hb1
  have p1 : w1.cell? ⟨w.heap.size, 1, none⟩ = some (.pointer (some ⟨rb, 0, none⟩)) := cell_to (w := ((w.alloc (.cells #[.pointer (some ⟨tb, 0, none⟩), .pointer (some ⟨rb, 0, none⟩)] 119)).alloc (.cells #[.int .i64 kd, .int .i64 on, .int .i64 oa, .int .i64 ob, .slice s4.a s4.n s4.c, .slice s5.a s5.n s5.c, .int .i64 k.src, .int .i64 k.dst, .int .i64 k.proto, .int .i64 k.port, .int .i64 d0, .int .i64 d1, .int .i64 d2, .int .i64 d3, .int .i64 q0, .int .i64 q1, .int .i64 q2, .int .i64 q3, .slice s18.a s18.n s18.c, .slice s19.a s19.n s19.c] 88))) (by simp [go_sem]) hb1
  have HB1 := hid (show Below w.heap.size w w1 from Ext.trans (show Below w.heap.size w ((w.alloc (.cells #[.pointer (some ⟨tb, 0, none⟩), .pointer (some ⟨rb, 0, none⟩)] 119)).alloc (.cells #[.int .i64 kd, .int .i64 on, .int .i64 oa, .int .i64 ob, .slice s4.a s4.n s4.c, .slice s5.a s5.n s5.c, .int .i64 k.src, .int .i64 k.dst, .int .i64 k.proto, .int .i64 k.port, .int .i64 d0, .int .i64 d1, .int .i64 d2, .int .i64 d3, .int .i64 q0, .int .i64 q1, .int .i64 q2, .int .i64 q3, .slice s18.a s18.n s18.c, .slice s19.a s19.n s19.c] 88)) from bel) hb1)
  clear hb1 hbW
  go_wp2_with fail
  refine (refDec_host rb oa ob k w1 HM.out).mono ?_
  rintro e w2 ⟨rfl, hb2⟩
  have HB2 := hid (Ext.trans HB1.out hb2)
  clear s2 s3 s6 s7 s8 s9 p0 p1 hb2
  go_wp2_with fail
  refine (num_any 5 _).mono ?_
  rintro e w3 ⟨rfl, rfl⟩
  go_wp2
  go_ret
  exact ⟨rfl, HB2.out⟩
set_option maxRecDepth 100000 in
set_option maxHeartbeats 4000000 in
theorem rowed_bad (kd on oa ob d0 d1 d2 d3 q0 q1 q2 q3 : Int) (s4 s5 s18 s19 : DSl) (k : DPkt) (c : DClu) (T : Int × Int → List DRow) (tb rb : Nat) (pa qa : Option Addr) (pc qc : Nat) (w : World) (ht : TabsAs w.heap.size w tb c T) (r0 : w.cell? ⟨rb, 0, none⟩ = some (.slice pa c.pods.length pc)) (r1 : w.cell? ⟨rb, 1, none⟩ = some (.slice qa c.pols.length qc)) (hp : rdPods w.heap.size w pa c.pods) (hq : rdPols w.heap.size w qa c.pols) (hc : cluOk c) (hpl : c.pods.length ≤ 8) (hql : c.pols.length ≤ 4) (wb B : Nat) (vl vd : Value) (Ds : List DSl) (hblk : w.heap[wb]? = some (.cells #[vl, vd] 85 (0, 0))) (hod : w.ownsRow B 40 1 vd Ds.length (Ds.flatMap encSl)) (hDl : (Ds.length + 4) * 24 ≤ 140737488355328) (hBw : B ≤ wb) (hm : (oa, ob) ∈ plist) (hk : pktOk k = false) :
    Calls Tryz.prog 51 #[.pointer (some ⟨wb, 0, none⟩), .agg #[.pointer (some ⟨tb, 0, none⟩), .pointer (some ⟨rb, 0, none⟩)], .agg #[.int .i64 kd, .int .i64 on, .int .i64 oa, .int .i64 ob, .slice s4.a s4.n s4.c, .slice s5.a s5.n s5.c, .int .i64 k.src, .int .i64 k.dst, .int .i64 k.proto, .int .i64 k.port, .int .i64 d0, .int .i64 d1, .int .i64 d2, .int .i64 d3, .int .i64 q0, .int .i64 q1, .int .i64 q2, .int .i64 q3, .slice s18.a s18.n s18.c, .slice s19.a s19.n s19.c]] w fun e w' => e = .returned (.bool true) ∧ RowedOk wb B vl vd Ds w w' := by
  obtain ⟨L, hL, hTR⟩ := ht.tab oa ob hm
  have hlen := tab_len hc hpl hql hTR
  have hok := tab_ok hc hTR
  rw [← hL] at hlen hok
  have HM := hid hm
  have HT := hid ht
  have HK := hid hk
  have HOK := hid hok
  have HL := hid hL
  have HBLK := hid hblk
  have HOD := hid hod
  clear hm ht hk hok hL hTR hp hq hc hblk hod r0 r1
  have hbl : wb < w.heap.size := (Array.getElem?_eq_some_iff.1 HBLK.out).1
  go_enter Tryz.func51, Tryz.ntmps51
  go_wp2_with fail
  have hbW : Below w.heap.size w ((w.alloc (.cells #[.pointer (some ⟨tb, 0, none⟩), .pointer (some ⟨rb, 0, none⟩)] 119)).alloc (.cells #[.int .i64 kd, .int .i64 on, .int .i64 oa, .int .i64 ob, .slice s4.a s4.n s4.c, .slice s5.a s5.n s5.c, .int .i64 k.src, .int .i64 k.dst, .int .i64 k.proto, .int .i64 k.port, .int .i64 d0, .int .i64 d1, .int .i64 d2, .int .i64 d3, .int .i64 q0, .int .i64 q1, .int .i64 q2, .int .i64 q3, .slice s18.a s18.n s18.c, .slice s19.a s19.n s19.c] 88)) := bel
  have hsW : ((w.alloc (.cells #[.pointer (some ⟨tb, 0, none⟩), .pointer (some ⟨rb, 0, none⟩)] 119)).alloc (.cells #[.int .i64 kd, .int .i64 on, .int .i64 oa, .int .i64 ob, .slice s4.a s4.n s4.c, .slice s5.a s5.n s5.c, .int .i64 k.src, .int .i64 k.dst, .int .i64 k.proto, .int .i64 k.port, .int .i64 d0, .int .i64 d1, .int .i64 d2, .int .i64 d3, .int .i64 q0, .int .i64 q1, .int .i64 q2, .int .i64 q3, .slice s18.a s18.n s18.c, .slice s19.a s19.n s19.c] 88)).heap.size = w.heap.size + 2 := by simp [World.size_alloc]
  have HR1 := rows_any c T tb oa ob ((w.alloc (.cells #[.pointer (some ⟨tb, 0, none⟩), .pointer (some ⟨rb, 0, none⟩)] 119)).alloc (.cells #[.int .i64 kd, .int .i64 on, .int .i64 oa, .int .i64 ob, .slice s4.a s4.n s4.c, .slice s5.a s5.n s5.c, .int .i64 k.src, .int .i64 k.dst, .int .i64 k.proto, .int .i64 k.port, .int .i64 d0, .int .i64 d1, .int .i64 d2, .int .i64 d3, .int .i64 q0, .int .i64 q1, .int .i64 q2, .int .i64 q3, .slice s18.a s18.n s18.c, .slice s19.a s19.n s19.c] 88)) (HT.out.to hbW) HM.out
  rw [hsW] at HR1
  refine HR1.mono ?_
  generalize T (oa, ob) = l at *
  rintro e w1 ⟨⟨v, rfl, hown⟩, hb1⟩
  rw [← hsW] at hb1
  have s2 : w1.cell? ⟨w.heap.size + 1, 2, none⟩ = some (.int .i64 oa) := cell_to (w := ((w.alloc (.cells #[.pointer (some ⟨tb, 0, none⟩), .pointer (some ⟨rb, 0, none⟩)] 119)).alloc (.cells #[.int .i64 kd, .int .i64 on, .int .i64 oa, .int .i64 ob, .slice s4.a s4.n s4.c, .slice s5.a s5.n s5.c, .int .i64 k.src, .int .i64 k.dst, .int .i64 k.proto, .int .i64 k.port, .int .i64 d0, .int .i64 d1, .int .i64 d2, .int .i64 d3, .int .i64 q0, .int .i64 q1, .int .i64 q2, .int .i64 q3, .slice s18.a s18.n s18.c, .slice s19.a s19.n s19.c] 88))) (by simp [go_sem]) hb1
  have s3 : w1.cell? ⟨w.heap.size + 1, 3, none⟩ = some (.int .i64 ob) := cell_to (w := ((w.alloc (.cells #[.pointer (some ⟨tb, 0, none⟩), .pointer (some ⟨rb, 0, none⟩)] 119)).alloc (.cells #[.int .i64 kd, .int .i64 on, .int .i64 oa, .int .i64 ob, .slice s4.a s4.n s4.c, .slice s5.a s5.n s5.c, .int .i64 k.src, .int .i64 k.dst, .int .i64 k.proto, .int .i64 k.port, .int .i64 d0, .int .i64 d1, .int .i64 d2, .int .i64 d3, .int .i64 q0, .int .i64 q1, .int .i64 q2, .int .i64 q3, .slice s18.a s18.n s18.c, .slice s19.a s19.n s19.c] 88))) (by simp [go_sem]) hb1
  have s6 : w1.cell? ⟨w.heap.size + 1, 6, none⟩ = some (.int .i64 k.src) := cell_to (w := ((w.alloc (.cells #[.pointer (some ⟨tb, 0, none⟩), .pointer (some ⟨rb, 0, none⟩)] 119)).alloc (.cells #[.int .i64 kd, .int .i64 on, .int .i64 oa, .int .i64 ob, .slice s4.a s4.n s4.c, .slice s5.a s5.n s5.c, .int .i64 k.src, .int .i64 k.dst, .int .i64 k.proto, .int .i64 k.port, .int .i64 d0, .int .i64 d1, .int .i64 d2, .int .i64 d3, .int .i64 q0, .int .i64 q1, .int .i64 q2, .int .i64 q3, .slice s18.a s18.n s18.c, .slice s19.a s19.n s19.c] 88))) (by simp [go_sem]) hb1
  have s7 : w1.cell? ⟨w.heap.size + 1, 7, none⟩ = some (.int .i64 k.dst) := cell_to (w := ((w.alloc (.cells #[.pointer (some ⟨tb, 0, none⟩), .pointer (some ⟨rb, 0, none⟩)] 119)).alloc (.cells #[.int .i64 kd, .int .i64 on, .int .i64 oa, .int .i64 ob, .slice s4.a s4.n s4.c, .slice s5.a s5.n s5.c, .int .i64 k.src, .int .i64 k.dst, .int .i64 k.proto, .int .i64 k.port, .int .i64 d0, .int .i64 d1, .int .i64 d2, .int .i64 d3, .int .i64 q0, .int .i64 q1, .int .i64 q2, .int .i64 q3, .slice s18.a s18.n s18.c, .slice s19.a s19.n s19.c] 88))) (by simp [go_sem]) hb1
  have s8 : w1.cell? ⟨w.heap.size + 1, 8, none⟩ = some (.int .i64 k.proto) := cell_to (w := ((w.alloc (.cells #[.pointer (some ⟨tb, 0, none⟩), .pointer (some ⟨rb, 0, none⟩)] 119)).alloc (.cells #[.int .i64 kd, .int .i64 on, .int .i64 oa, .int .i64 ob, .slice s4.a s4.n s4.c, .slice s5.a s5.n s5.c, .int .i64 k.src, .int .i64 k.dst, .int .i64 k.proto, .int .i64 k.port, .int .i64 d0, .int .i64 d1, .int .i64 d2, .int .i64 d3, .int .i64 q0, .int .i64 q1, .int .i64 q2, .int .i64 q3, .slice s18.a s18.n s18.c, .slice s19.a s19.n s19.c] 88))) (by simp [go_sem]) hb1
  have s9 : w1.cell? ⟨w.heap.size + 1, 9, none⟩ = some (.int .i64 k.port) := cell_to (w := ((w.alloc (.cells #[.pointer (some ⟨tb, 0, none⟩), .pointer (some ⟨rb, 0, none⟩)] 119)).alloc (.cells #[.int .i64 kd, .int .i64 on, .int .i64 oa, .int .i64 ob, .slice s4.a s4.n s4.c, .slice s5.a s5.n s5.c, .int .i64 k.src, .int .i64 k.dst, .int .i64 k.proto, .int .i64 k.port, .int .i64 d0, .int .i64 d1, .int .i64 d2, .int .i64 d3, .int .i64 q0, .int .i64 q1, .int .i64 q2, .int .i64 q3, .slice s18.a s18.n s18.c, .slice s19.a s19.n s19.c] 88))) (by simp [go_sem]) hb1
  have p0 : w1.cell? ⟨w.heap.size, 0, none⟩ = some (.pointer (some ⟨tb, 0, none⟩)) := cell_to (w := ((w.alloc (.cells #[.pointer (some ⟨tb, 0, none⟩), .pointer (some ⟨rb, 0, none⟩)] 119)).alloc (.cells #[.int .i64 kd, .int .i64 on, .int .i64 oa, .int .i64 ob, .slice s4.a s4.n s4.c, .slice s5.a s5.n s5.c, .int .i64 k.src, .int .i64 k.dst, .int .i64 k.proto, .int .i64 k.port, .int .i64 d0, .int .i64 d1, .int .i64 d2, .int .i64 d3, .int .i64 q0, .int .i64 q1, .int .i64 q2, .int .i64 q3, .slice s18.a s18.n s18.c, .slice s19.a s19.n s19.c] 88))) (by simp [go_sem]) hb1
  have p1 : w1.cell? ⟨w.heap.size, 1, none⟩ = some (.pointer (some ⟨rb, 0, none⟩)) := cell_to (w := ((w.alloc (.cells #[.pointer (some ⟨tb, 0, none⟩), .pointer (some ⟨rb, 0, none⟩)] 119)).alloc (.cells #[.int .i64 kd, .int .i64 on, .int .i64 oa, .int .i64 ob, .slice s4.a s4.n s4.c, .slice s5.a s5.n s5.c, .int .i64 k.src, .int .i64 k.dst, .int .i64 k.proto, .int .i64 k.port, .int .i64 d0, .int .i64 d1, .int .i64 d2, .int .i64 d3, .int .i64 q0, .int .i64 q1, .int .i64 q2, .int .i64 q3, .slice s18.a s18.n s18.c, .slice s19.a s19.n s19.c] 88))) (by simp [go_sem]) hb1
  have HB1 := hid (show Below w.heap.size w w1 from Ext.trans (show Below w.heap.size w ((w.alloc (.cells #[.pointer (some ⟨tb, 0, none⟩), .pointer (some ⟨rb, 0, none⟩)] 119)).alloc (.cells #[.int .i64 kd, .int .i64 on, .int .i64 oa, .int .i64 ob, .slice s4.a s4.n s4.c, .slice s5.a s5.n s5.c, .int .i64 k.src, .int .i64 k.dst, .int .i64 k.proto, .int .i64 k.port, .int .i64 d0, .int .i64 d1, .int .i64 d2, .int .i64 d3, .int .i64 q0, .int .i64 q1, .int .i64 q2, .int .i64 q3, .slice s18.a s18.n s18.c, .slice s19.a s19.n s19.c] 88)) from bel) hb1)
  have hs1 := hb1.size
  rw [hsW] at hs1
  obtain ⟨ra, rc, rfl, hrc, hrr⟩ := own_rows hown (by omega)
  have HOWN := hid hown
  have HRR := hid hrr
  clear hb1 hbW hown hrr HR1 hsW
  go_wp2_with fail
  refine (refDec_pkt rb oa ob k w1 HM.out HK.out).mono ?_
  rintro e w2 ⟨rfl, hb2⟩
  have hs2 := hb2.size
  have HB2 := hid (Ext.trans HB1.out hb2)
  have HOWN2 := hid (own_to HOWN.out hb2)
  have HRR2 := hid (rdRows.to HRR.out hb2)
  clear s2 s3 s6 s7 s8 s9 p0 p1 hb2
  go_wp2_with fail
  refine (table_any l L ra rc w2 HRR2.out HOK.out HL.out (by omega)).mono ?_
  rintro e w3 ⟨rfl, hb3⟩
  have hs3 := hb3.size
  have HB3 := hid (Ext.trans HB2.out hb3)
  have HOWN3 := hid (own_to HOWN2.out hb3)
  clear hb3
  go_wp2_with fail
  refine (num_any 0 _).mono ?_
  rintro e w4 ⟨rfl, rfl⟩
  go_wp2_with fail
  refine (keep_any wb B (w.heap.size + 2) vl vd _ Ds l.length _ w4 ((HB3.out.block wb hbl).trans HBLK.out) (own_to HOD.out HB3.out) hDl HOWN3.out (by omega) hBw (by omega) (fun g hg => by have := HOD.out.lt g hg; omega) (by omega) (by omega)).mono ?_
  rintro e w5 ⟨rfl, hkept⟩
  have HKP := hid hkept
  clear hkept
  go_wp2
  go_ret
  exact ⟨rfl, w4, _, _, HB3.out, by omega, fun g hg => by have := HOWN3.out.lt g hg; omega, HKP.out⟩
end Go.Proofs.YtmkjlhplgcifiaaGreat
