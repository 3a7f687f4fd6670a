/-
  palisadelaw: World.decided, walked.
-/
import Derived.Test.YtmkjlhplgcifiaaGreatH40
namespace Go.Proofs.YtmkjlhplgcifiaaGreat
open Go.ChangeShapes Go.WideShapes Go.ChangeAt Go.RowKit
set_option linter.unusedVariables false
set_option linter.unusedSimpArgs false
attribute [local simp] World.cell?_grow World.cell?_alloc_there
attribute [local go_sem] World.cell?_grow World.cell?_alloc_there eqg_blk std_blk eqg_pod std_pod eqg_sel std_sel eqg_prt std_prt eqg_row std_row
attribute [local go_sem ↓] eql_blk eql_sel neq_sel eql_prt eql_pod met_in1 met_in2 met_re1 met_re2 met_has1 met_has2 met_bl1 met_bl2 neq_row
set_option maxRecDepth 100000 in
set_option maxHeartbeats 2000000 in
theorem decided_none (kd on oa ob d0 d1 d2 d3 q0 q1 q2 q3 : Int) (s4 s5 s18 s19 : DSl) (k : DPkt) (c : DClu) (T : Int × Int → List DRow) (tb rb wb : Nat) (w : World) (ht : TabsAs w.heap.size w tb c T) (hm : (oa, ob) ∉ plist) :
    Calls Tryz.prog 52 #[.pointer (some ⟨wb, 0, none⟩), .agg #[.pointer (some ⟨tb, 0, none⟩), .pointer (some ⟨rb, 0, none⟩)], .agg #[.int .i64 kd, .int .i64 on, .int .i64 oa, .int .i64 ob, .slice s4.a s4.n s4.c, .slice s5.a s5.n s5.c, .int .i64 k.src, .int .i64 k.dst, .int .i64 k.proto, .int .i64 k.port, .int .i64 d0, .int .i64 d1, .int .i64 d2, .int .i64 d3, .int .i64 q0, .int .i64 q1, .int .i64 q2, .int .i64 q3, .slice s18.a s18.n s18.c, .slice s19.a s19.n s19.c]] w fun e w' => e = .returned (.bool true) ∧ Below w.heap.size w w' := by
  have HDEC := hid (fun W h => decide_none c T tb oa ob k W h hm)
  have HDOC := hid (fun W => refDec_host rb oa ob k W hm)
  have HT := hid ht
  clear hm ht
  go_enter Tryz.func52, Tryz.ntmps52
  go_wp2_with fail
  have hbW : Below w.heap.size w ((w.alloc (.cells #[.pointer (some ⟨tb, 0, none⟩), .pointer (some ⟨rb, 0, none⟩)] 119)).alloc (.cells #[.int .i64 kd, .int .i64 on, .int .i64 oa, .int .i64 ob, .slice s4.a s4.n s4.c, .slice s5.a s5.n s5.c, .int .i64 k.src, .int .i64 k.dst, .int .i64 k.proto, .int .i64 k.port, .int .i64 d0, .int .i64 d1, .int .i64 d2, .int .i64 d3, .int .i64 q0, .int .i64 q1, .int .i64 q2, .int .i64 q3, .slice s18.a s18.n s18.c, .slice s19.a s19.n s19.c] 88)) := bel
  refine (HDEC.out _ (HT.out.to hbW)).mono ?_
  rintro e w1 ⟨rfl, hb1⟩
  have s2 : w1.cell? ⟨w.heap.size + 1, 2, none⟩ = some (.int .i64 oa) := cell_to (w := ((w.alloc (.cells #[.pointer (some ⟨tb, 0, none⟩), .pointer (some ⟨rb, 0, none⟩)] 119)).alloc (.cells #[.int .i64 kd, .int .i64 on, .int .i64 oa, .int .i64 ob, .slice s4.a s4.n s4.c, .slice s5.a s5.n s5.c, .int .i64 k.src, .int .i64 k.dst, .int .i64 k.proto, .int .i64 k.port, .int .i64 d0, .int .i64 d1, .int .i64 d2, .int .i64 d3, .int .i64 q0, .int .i64 q1, .int .i64 q2, .int .i64 q3, .slice s18.a s18.n s18.c, .slice s19.a s19.n s19.c] 88))) (by simp [go_sem]) hb1
  have s3 : w1.cell? ⟨w.heap.size + 1, 3, none⟩ = some (.int .i64 ob) := cell_to (w := ((w.alloc (.cells #[.pointer (some ⟨tb, 0, none⟩), .pointer (some ⟨rb, 0, none⟩)] 119)).alloc (.cells #[.int .i64 kd, .int .i64 on, .int .i64 oa, .int .i64 ob, .slice s4.a s4.n s4.c, .slice s5.a s5.n s5.c, .int .i64 k.src, .int .i64 k.dst, .int .i64 k.proto, .int .i64 k.port, .int .i64 d0, .int .i64 d1, .int .i64 d2, .int .i64 d3, .int .i64 q0, .int .i64 q1, .int .i64 q2, .int .i64 q3, .slice s18.a s18.n s18.c, .slice s19.a s19.n s19.c] 88))) (by simp [go_sem]) hb1
  have s6 : w1.cell? ⟨w.heap.size + 1, 6, none⟩ = some (.int .i64 k.src) := cell_to (w := ((w.alloc (.cells #[.pointer (some ⟨tb, 0, none⟩), .pointer (some ⟨rb, 0, none⟩)] 119)).alloc (.cells #[.int .i64 kd, .int .i64 on, .int .i64 oa, .int .i64 ob, .slice s4.a s4.n s4.c, .slice s5.a s5.n s5.c, .int .i64 k.src, .int .i64 k.dst, .int .i64 k.proto, .int .i64 k.port, .int .i64 d0, .int .i64 d1, .int .i64 d2, .int .i64 d3, .int .i64 q0, .int .i64 q1, .int .i64 q2, .int .i64 q3, .slice s18.a s18.n s18.c, .slice s19.a s19.n s19.c] 88))) (by simp [go_sem]) hb1
  have s7 : w1.cell? ⟨w.heap.size + 1, 7, none⟩ = some (.int .i64 k.dst) := cell_to (w := ((w.alloc (.cells #[.pointer (some ⟨tb, 0, none⟩), .pointer (some ⟨rb, 0, none⟩)] 119)).alloc (.cells #[.int .i64 kd, .int .i64 on, .int .i64 oa, .int .i64 ob, .slice s4.a s4.n s4.c, .slice s5.a s5.n s5.c, .int .i64 k.src, .int .i64 k.dst, .int .i64 k.proto, .int .i64 k.port, .int .i64 d0, .int .i64 d1, .int .i64 d2, .int .i64 d3, .int .i64 q0, .int .i64 q1, .int .i64 q2, .int .i64 q3, .slice s18.a s18.n s18.c, .slice s19.a s19.n s19.c] 88))) (by simp [go_sem]) hb1
  have s8 : w1.cell? ⟨w.heap.size + 1, 8, none⟩ = some (.int .i64 k.proto) := cell_to (w := ((w.alloc (.cells #[.pointer (some ⟨tb, 0, none⟩), .pointer (some ⟨rb, 0, none⟩)] 119)).alloc (.cells #[.int .i64 kd, .int .i64 on, .int .i64 oa, .int .i64 ob, .slice s4.a s4.n s4.c, .slice s5.a s5.n s5.c, .int .i64 k.src, .int .i64 k.dst, .int .i64 k.proto, .int .i64 k.port, .int .i64 d0, .int .i64 d1, .int .i64 d2, .int .i64 d3, .int .i64 q0, .int .i64 q1, .int .i64 q2, .int .i64 q3, .slice s18.a s18.n s18.c, .slice s19.a s19.n s19.c] 88))) (by simp [go_sem]) hb1
  have s9 : w1.cell? ⟨w.heap.size + 1, 9, none⟩ = some (.int .i64 k.port) := cell_to (w := ((w.alloc (.cells #[.pointer (some ⟨tb, 0, none⟩), .pointer (some ⟨rb, 0, none⟩)] 119)).alloc (.cells #[.int .i64 kd, .int .i64 on, .int .i64 oa, .int .i64 ob, .slice s4.a s4.n s4.c, .slice s5.a s5.n s5.c, .int .i64 k.src, .int .i64 k.dst, .int .i64 k.proto, .int .i64 k.port, .int .i64 d0, .int .i64 d1, .int .i64 d2, .int .i64 d3, .int .i64 q0, .int .i64 q1, .int .i64 q2, .int .i64 q3, .slice s18.a s18.n s18.c, .slice s19.a s19.n s19.c] 88))) (by simp [go_sem]) hb1
  have p0 : w1.cell? ⟨w.heap.size, 0, none⟩ = some (.pointer (some ⟨tb, 0, none⟩)) := cell_to (w := ((w.alloc (.cells #[.pointer (some ⟨tb, 0, none⟩), .pointer (some ⟨rb, 0, none⟩)] 119)).alloc (.cells #[.int .i64 kd, .int .i64 on, .int .i64 oa, .int .i64 ob, .slice s4.a s4.n s4.c, .slice s5.a s5.n s5.c, .int .i64 k.src, .int .i64 k.dst, .int .i64 k.proto, .int .i64 k.port, .int .i64 d0, .int .i64 d1, .int .i64 d2, .int .i64 d3, .int .i64 q0, .int .i64 q1, .int .i64 q2, .int .i64 q3, .slice s18.a s18.n s18.c, .slice s19.a s19.n s19.c] 88))) (by simp [go_sem]) hb1
  have p1 : w1.cell? ⟨w.heap.size, 1, none⟩ = some (.pointer (some ⟨rb, 0, none⟩)) := cell_to (w := ((w.alloc (.cells #[.pointer (some ⟨tb, 0, none⟩), .pointer (some ⟨rb, 0, none⟩)] 119)).alloc (.cells #[.int .i64 kd, .int .i64 on, .int .i64 oa, .int .i64 ob, .slice s4.a s4.n s4.c, .slice s5.a s5.n s5.c, .int .i64 k.src, .int .i64 k.dst, .int .i64 k.proto, .int .i64 k.port, .int .i64 d0, .int .i64 d1, .int .i64 d2, .int .i64 d3, .int .i64 q0, .int .i64 q1, .int .i64 q2, .int .i64 q3, .slice s18.a s18.n s18.c, .slice s19.a s19.n s19.c] 88))) (by simp [go_sem]) hb1
  have HB1 := hid (show Below w.heap.size w w1 from Ext.trans (show Below w.heap.size w ((w.alloc (.cells #[.pointer (some ⟨tb, 0, none⟩), .pointer (some ⟨rb, 0, none⟩)] 119)).alloc (.cells #[.int .i64 kd, .int .i64 on, .int .i64 oa, .int .i64 ob, .slice s4.a s4.n s4.c, .slice s5.a s5.n s5.c, .int .i64 k.src, .int .i64 k.dst, .int .i64 k.proto, .int .i64 k.port, .int .i64 d0, .int .i64 d1, .int .i64 d2, .int .i64 d3, .int .i64 q0, .int .i64 q1, .int .i64 q2, .int .i64 q3, .slice s18.a s18.n s18.c, .slice s19.a s19.n s19.c] 88)) from bel) hb1)
  clear hb1 hbW
  go_wp2_with fail
  refine (HDOC.out w1).mono ?_
  rintro e w2 ⟨rfl, hb2⟩
  have HB2 := hid (Ext.trans HB1.out hb2)
  clear s2 s3 s6 s7 s8 s9 p0 p1 hb2
  go_wp2_with fail
  refine (num_any 5 _).mono ?_
  rintro e w3 ⟨rfl, rfl⟩
  go_wp2_with fail
  refine (num_any 5 _).mono ?_
  rintro e w4 ⟨rfl, rfl⟩
  go_wp2
  go_ret
  exact ⟨rfl, HB2.out⟩
set_option maxRecDepth 100000 in
set_option maxHeartbeats 2000000 in
theorem decided_bad (kd on oa ob d0 d1 d2 d3 q0 q1 q2 q3 : Int) (s4 s5 s18 s19 : DSl) (k : DPkt) (c : DClu) (T : Int × Int → List DRow) (tb rb wb : Nat) (w : World) (ht : TabsAs w.heap.size w tb c T) (hm : (oa, ob) ∈ plist) (hk : pktOk k = false) :
    Calls Tryz.prog 52 #[.pointer (some ⟨wb, 0, none⟩), .agg #[.pointer (some ⟨tb, 0, none⟩), .pointer (some ⟨rb, 0, none⟩)], .agg #[.int .i64 kd, .int .i64 on, .int .i64 oa, .int .i64 ob, .slice s4.a s4.n s4.c, .slice s5.a s5.n s5.c, .int .i64 k.src, .int .i64 k.dst, .int .i64 k.proto, .int .i64 k.port, .int .i64 d0, .int .i64 d1, .int .i64 d2, .int .i64 d3, .int .i64 q0, .int .i64 q1, .int .i64 q2, .int .i64 q3, .slice s18.a s18.n s18.c, .slice s19.a s19.n s19.c]] w fun e w' => e = .returned (.bool true) ∧ Below w.heap.size w w' := by
  have HDEC := hid (fun W h => decide_bad c T tb oa ob k W h hm hk)
  have HDOC := hid (fun W => refDec_pkt rb oa ob k W hm hk)
  have HT := hid ht
  clear hm ht
  go_enter Tryz.func52, Tryz.ntmps52
  go_wp2_with fail
  have hbW : Below w.heap.size w ((w.alloc (.cells #[.pointer (some ⟨tb, 0, none⟩), .pointer (some ⟨rb, 0, none⟩)] 119)).alloc (.cells #[.int .i64 kd, .int .i64 on, .int .i64 oa, .int .i64 ob, .slice s4.a s4.n s4.c, .slice s5.a s5.n s5.c, .int .i64 k.src, .int .i64 k.dst, .int .i64 k.proto, .int .i64 k.port, .int .i64 d0, .int .i64 d1, .int .i64 d2, .int .i64 d3, .int .i64 q0, .int .i64 q1, .int .i64 q2, .int .i64 q3, .slice s18.a s18.n s18.c, .slice s19.a s19.n s19.c] 88)) := bel
  refine (HDEC.out _ (HT.out.to hbW)).mono ?_
  rintro e w1 ⟨rfl, hb1⟩
  have s2 : w1.cell? ⟨w.heap.size + 1, 2, none⟩ = some (.int .i64 oa) := cell_to (w := ((w.alloc (.cells #[.pointer (some ⟨tb, 0, none⟩), .pointer (some ⟨rb, 0, none⟩)] 119)).alloc (.cells #[.int .i64 kd, .int .i64 on, .int .i64 oa, .int .i64 ob, .slice s4.a s4.n s4.c, .slice s5.a s5.n s5.c, .int .i64 k.src, .int .i64 k.dst, .int .i64 k.proto, .int .i64 k.port, .int .i64 d0, .int .i64 d1, .int .i64 d2, .int .i64 d3, .int .i64 q0, .int .i64 q1, .int .i64 q2, .int .i64 q3, .slice s18.a s18.n s18.c, .slice s19.a s19.n s19.c] 88))) (by simp [go_sem]) hb1
  have s3 : w1.cell? ⟨w.heap.size + 1, 3, none⟩ = some (.int .i64 ob) := cell_to (w := ((w.alloc (.cells #[.pointer (some ⟨tb, 0, none⟩), .pointer (some ⟨rb, 0, none⟩)] 119)).alloc (.cells #[.int .i64 kd, .int .i64 on, .int .i64 oa, .int .i64 ob, .slice s4.a s4.n s4.c, .slice s5.a s5.n s5.c, .int .i64 k.src, .int .i64 k.dst, .int .i64 k.proto, .int .i64 k.port, .int .i64 d0, .int .i64 d1, .int .i64 d2, .int .i64 d3, .int .i64 q0, .int .i64 q1, .int .i64 q2, .int .i64 q3, .slice s18.a s18.n s18.c, .slice s19.a s19.n s19.c] 88))) (by simp [go_sem]) hb1
  have s6 : w1.cell? ⟨w.heap.size + 1, 6, none⟩ = some (.int .i64 k.src) := cell_to (w := ((w.alloc (.cells #[.pointer (some ⟨tb, 0, none⟩), .pointer (some ⟨rb, 0, none⟩)] 119)).alloc (.cells #[.int .i64 kd, .int .i64 on, .int .i64 oa, .int .i64 ob, .slice s4.a s4.n s4.c, .slice s5.a s5.n s5.c, .int .i64 k.src, .int .i64 k.dst, .int .i64 k.proto, .int .i64 k.port, .int .i64 d0, .int .i64 d1, .int .i64 d2, .int .i64 d3, .int .i64 q0, .int .i64 q1, .int .i64 q2, .int .i64 q3, .slice s18.a s18.n s18.c, .slice s19.a s19.n s19.c] 88))) (by simp [go_sem]) hb1
  have s7 : w1.cell? ⟨w.heap.size + 1, 7, none⟩ = some (.int .i64 k.dst) := cell_to (w := ((w.alloc (.cells #[.pointer (some ⟨tb, 0, none⟩), .pointer (some ⟨rb, 0, none⟩)] 119)).alloc (.cells #[.int .i64 kd, .int .i64 on, .int .i64 oa, .int .i64 ob, .slice s4.a s4.n s4.c, .slice s5.a s5.n s5.c, .int .i64 k.src, .int .i64 k.dst, .int .i64 k.proto, .int .i64 k.port, .int .i64 d0, .int .i64 d1, .int .i64 d2, .int .i64 d3, .int .i64 q0, .int .i64 q1, .int .i64 q2, .int .i64 q3, .slice s18.a s18.n s18.c, .slice s19.a s19.n s19.c] 88))) (by simp [go_sem]) hb1
  have s8 : w1.cell? ⟨w.heap.size + 1, 8, none⟩ = some (.int .i64 k.proto) := cell_to (w := ((w.alloc (.cells #[.pointer (some ⟨tb, 0, none⟩), .pointer (some ⟨rb, 0, none⟩)] 119)).alloc (.cells #[.int .i64 kd, .int .i64 on, .int .i64 oa, .int .i64 ob, .slice s4.a s4.n s4.c, .slice s5.a s5.n s5.c, .int .i64 k.src, .int .i64 k.dst, .int .i64 k.proto, .int .i64 k.port, .int .i64 d0, .int .i64 d1, .int .i64 d2, .int .i64 d3, .int .i64 q0, .int .i64 q1, .int .i64 q2, .int .i64 q3, .slice s18.a s18.n s18.c, .slice s19.a s19.n s19.c] 88))) (by simp [go_sem]) hb1
  have s9 : w1.cell? ⟨w.heap.size + 1, 9, none⟩ = some (.int .i64 k.port) := cell_to (w := ((w.alloc (.cells #[.pointer (some ⟨tb, 0, none⟩), .pointer (some ⟨rb, 0, none⟩)] 119)).alloc (.cells #[.int .i64 kd, .int .i64 on, .int .i64 oa, .int .i64 ob, .slice s4.a s4.n s4.c, .slice s5.a s5.n s5.c, .int .i64 k.src, .int .i64 k.dst, .int .i64 k.proto, .int .i64 k.port, .int .i64 d0, .int .i64 d1, .int .i64 d2, .int .i64 d3, .int .i64 q0, .int .i64 q1, .int .i64 q2, .int .i64 q3, .slice s18.a s18.n s18.c, .slice s19.a s19.n s19.c] 88))) (by simp [go_sem]) hb1
  have p0 : w1.cell? ⟨w.heap.size, 0, none⟩ = some (.pointer (some ⟨tb, 0, none⟩)) := cell_to (w := ((w.alloc (.cells #[.pointer (some ⟨tb, 0, none⟩), .pointer (some ⟨rb, 0, none⟩)] 119)).alloc (.cells #[.int .i64 kd, .int .i64 on, .int .i64 oa, .int .i64 ob, .slice s4.a s4.n s4.c, .slice s5.a s5.n s5.c, .int .i64 k.src, .int .i64 k.dst, .int .i64 k.proto, .int .i64 k.port, .int .i64 d0, .int .i64 d1, .int .i64 d2, .int .i64 d3, .int .i64 q0, .int .i64 q1, .int .i64 q2, .int .i64 q3, .slice s18.a s18.n s18.c, .slice s19.a s19.n s19.c] 88))) (by simp [go_sem]) hb1
  have p1 : w1.cell? ⟨w.heap.size, 1, none⟩ = some (.pointer (some ⟨rb, 0, none⟩)) := cell_to (w := ((w.alloc (.cells #[.pointer (some ⟨tb, 0, none⟩), .pointer (some ⟨rb, 0, none⟩)] 119)).alloc (.cells #[.int .i64 kd, .int .i64 on, .int .i64 oa, .int .i64 ob, .slice s4.a s4.n s4.c, .slice s5.a s5.n s5.c, .int .i64 k.src, .int .i64 k.dst, .int .i64 k.proto, .int .i64 k.port, .int .i64 d0, .int .i64 d1, .int .i64 d2, .int .i64 d3, .int .i64 q0, .int .i64 q1, .int .i64 q2, .int .i64 q3, .slice s18.a s18.n s18.c, .slice s19.a s19.n s19.c] 88))) (by simp [go_sem]) hb1
  have HB1 := hid (show Below w.heap.size w w1 from Ext.trans (show Below w.heap.size w ((w.alloc (.cells #[.pointer (some ⟨tb, 0, none⟩), .pointer (some ⟨rb, 0, none⟩)] 119)).alloc (.cells #[.int .i64 kd, .int .i64 on, .int .i64 oa, .int .i64 ob, .slice s4.a s4.n s4.c, .slice s5.a s5.n s5.c, .int .i64 k.src, .int .i64 k.dst, .int .i64 k.proto, .int .i64 k.port, .int .i64 d0, .int .i64 d1, .int .i64 d2, .int .i64 d3, .int .i64 q0, .int .i64 q1, .int .i64 q2, .int .i64 q3, .slice s18.a s18.n s18.c, .slice s19.a s19.n s19.c] 88)) from bel) hb1)
  clear hb1 hbW
  go_wp2_with fail
  refine (HDOC.out w1).mono ?_
  rintro e w2 ⟨rfl, hb2⟩
  have HB2 := hid (Ext.trans HB1.out hb2)
  clear s2 s3 s6 s7 s8 s9 p0 p1 hb2
  go_wp2_with fail
  refine (num_any 4 _).mono ?_
  rintro e w3 ⟨rfl, rfl⟩
  go_wp2_with fail
  refine (num_any 4 _).mono ?_
  rintro e w4 ⟨rfl, rfl⟩
  go_wp2
  go_ret
  exact ⟨rfl, HB2.out⟩
theorem own_weak {w : World} {base base' : Nat} {e : TypeId} {size : Nat} {v : Value} {n : Nat} {xs : List Value} (h : w.ownsRow base e size v n xs) (hb : base' ≤ base) : w.ownsRow base' e size v n xs := by
  obtain ⟨h1, h2 | ⟨g, cap, cur, e1, b, c⟩⟩ := h
  · exact ⟨h1, .inl h2⟩
  · exact ⟨h1, .inr ⟨g, cap, cur, e1, Nat.le_trans hb b, c⟩⟩
set_option maxRecDepth 100000 in
set_option maxHeartbeats 4000000 in
theorem decided_any (kd on oa ob d0 d1 d2 d3 q0 q1 q2 q3 : Int) (s4 s5 s18 s19 : DSl) (k : DPkt) (c : DClu) (T : Int × Int → List DRow) (tb rb : Nat) (pa qa : Option Addr) (pc qc : Nat) (w : World) (ht : TabsAs w.heap.size w tb c T) (r0 : w.cell? ⟨rb, 0, none⟩ = some (.slice pa c.pods.length pc)) (r1 : w.cell? ⟨rb, 1, none⟩ = some (.slice qa c.pols.length qc)) (hp : rdPods w.heap.size w pa c.pods) (hq : rdPols w.heap.size w qa c.pols) (hc : cluOk c) (hpl : c.pods.length ≤ 8) (hql : c.pols.length ≤ 4) (wb B : Nat) (vl vd : Value) (Ds : List DSl) (hblk : w.heap[wb]? = some (.cells #[vl, vd] 85 (0, 0))) (hod : w.ownsRow B 40 1 vd Ds.length (Ds.flatMap encSl)) (hDl : (Ds.length + 4) * 24 ≤ 140737488355328) (hBw : B ≤ wb) (hm : (oa, ob) ∈ plist) (hk : pktOk k = true) :
    Calls Tryz.prog 52 #[.pointer (some ⟨wb, 0, none⟩), .agg #[.pointer (some ⟨tb, 0, none⟩), .pointer (some ⟨rb, 0, none⟩)], .agg #[.int .i64 kd, .int .i64 on, .int .i64 oa, .int .i64 ob, .slice s4.a s4.n s4.c, .slice s5.a s5.n s5.c, .int .i64 k.src, .int .i64 k.dst, .int .i64 k.proto, .int .i64 k.port, .int .i64 d0, .int .i64 d1, .int .i64 d2, .int .i64 d3, .int .i64 q0, .int .i64 q1, .int .i64 q2, .int .i64 q3, .slice s18.a s18.n s18.c, .slice s19.a s19.n s19.c]] w fun e w' => e = .returned (.bool true) ∧ RowedOk wb B vl vd Ds w w' := by
  obtain ⟨L, hL, hTR⟩ := ht.tab oa ob hm
  have hlen := tab_len hc hpl hql hTR
  have hok := tab_ok hc hTR
  rw [← hL] at hlen hok
  have hdec := fun W h0 h1 h2 h3 => refDec_any c rb oa ob k pa qa pc qc W h0 h1 h2 h3 hc hm hk
  have HXD := hid (fun W h => decide_any c T tb oa ob k W h hm hk hc)
  have HROW := hid (fun W h => rows_any c T tb oa ob W h hm)
  have hfi := fun W a cp h0 h1 => first_any (T (oa, ob)) k a cp W h0 h1 hk
  have HDEC := hid hdec
  have HFI := hid hfi
  have HT := hid ht
  have HOK := hid hok
  have HL := hid hL
  have HBLK := hid hblk
  have HOD := hid hod
  have HP := hid hp
  have HQ := hid hq
  clear hm ht hk hok hL hTR hp hq hc hblk hod hdec hfi
  generalize decd c oa ob k = dd at *
  generalize T (oa, ob) = l at *
  have hbl : wb < w.heap.size := (Array.getElem?_eq_some_iff.1 HBLK.out).1
  go_enter Tryz.func52, Tryz.ntmps52
  go_wp2_with fail
  have hbW : Below w.heap.size w ((w.alloc (.cells #[.pointer (some ⟨tb, 0, none⟩), .pointer (some ⟨rb, 0, none⟩)] 119)).alloc (.cells #[.int .i64 kd, .int .i64 on, .int .i64 oa, .int .i64 ob, .slice s4.a s4.n s4.c, .slice s5.a s5.n s5.c, .int .i64 k.src, .int .i64 k.dst, .int .i64 k.proto, .int .i64 k.port, .int .i64 d0, .int .i64 d1, .int .i64 d2, .int .i64 d3, .int .i64 q0, .int .i64 q1, .int .i64 q2, .int .i64 q3, .slice s18.a s18.n s18.c, .slice s19.a s19.n s19.c] 88)) := bel
  have hsW : ((w.alloc (.cells #[.pointer (some ⟨tb, 0, none⟩), .pointer (some ⟨rb, 0, none⟩)] 119)).alloc (.cells #[.int .i64 kd, .int .i64 on, .int .i64 oa, .int .i64 ob, .slice s4.a s4.n s4.c, .slice s5.a s5.n s5.c, .int .i64 k.src, .int .i64 k.dst, .int .i64 k.proto, .int .i64 k.port, .int .i64 d0, .int .i64 d1, .int .i64 d2, .int .i64 d3, .int .i64 q0, .int .i64 q1, .int .i64 q2, .int .i64 q3, .slice s18.a s18.n s18.c, .slice s19.a s19.n s19.c] 88)).heap.size = w.heap.size + 2 := by simp [World.size_alloc]
  refine (HXD.out _ (HT.out.to hbW)).mono ?_
  rintro e w1 ⟨⟨n, r, rfl, hn, _, _⟩, hb1⟩
  have s2 : w1.cell? ⟨w.heap.size + 1, 2, none⟩ = some (.int .i64 oa) := cell_to (w := ((w.alloc (.cells #[.pointer (some ⟨tb, 0, none⟩), .pointer (some ⟨rb, 0, none⟩)] 119)).alloc (.cells #[.int .i64 kd, .int .i64 on, .int .i64 oa, .int .i64 ob, .slice s4.a s4.n s4.c, .slice s5.a s5.n s5.c, .int .i64 k.src, .int .i64 k.dst, .int .i64 k.proto, .int .i64 k.port, .int .i64 d0, .int .i64 d1, .int .i64 d2, .int .i64 d3, .int .i64 q0, .int .i64 q1, .int .i64 q2, .int .i64 q3, .slice s18.a s18.n s18.c, .slice s19.a s19.n s19.c] 88))) (by simp [go_sem]) hb1
  have s3 : w1.cell? ⟨w.heap.size + 1, 3, none⟩ = some (.int .i64 ob) := cell_to (w := ((w.alloc (.cells #[.pointer (some ⟨tb, 0, none⟩), .pointer (some ⟨rb, 0, none⟩)] 119)).alloc (.cells #[.int .i64 kd, .int .i64 on, .int .i64 oa, .int .i64 ob, .slice s4.a s4.n s4.c, .slice s5.a s5.n s5.c, .int .i64 k.src, .int .i64 k.dst, .int .i64 k.proto, .int .i64 k.port, .int .i64 d0, .int .i64 d1, .int .i64 d2, .int .i64 d3, .int .i64 q0, .int .i64 q1, .int .i64 q2, .int .i64 q3, .slice s18.a s18.n s18.c, .slice s19.a s19.n s19.c] 88))) (by simp [go_sem]) hb1
  have s6 : w1.cell? ⟨w.heap.size + 1, 6, none⟩ = some (.int .i64 k.src) := cell_to (w := ((w.alloc (.cells #[.pointer (some ⟨tb, 0, none⟩), .pointer (some ⟨rb, 0, none⟩)] 119)).alloc (.cells #[.int .i64 kd, .int .i64 on, .int .i64 oa, .int .i64 ob, .slice s4.a s4.n s4.c, .slice s5.a s5.n s5.c, .int .i64 k.src, .int .i64 k.dst, .int .i64 k.proto, .int .i64 k.port, .int .i64 d0, .int .i64 d1, .int .i64 d2, .int .i64 d3, .int .i64 q0, .int .i64 q1, .int .i64 q2, .int .i64 q3, .slice s18.a s18.n s18.c, .slice s19.a s19.n s19.c] 88))) (by simp [go_sem]) hb1
  have s7 : w1.cell? ⟨w.heap.size + 1, 7, none⟩ = some (.int .i64 k.dst) := cell_to (w := ((w.alloc (.cells #[.pointer (some ⟨tb, 0, none⟩), .pointer (some ⟨rb, 0, none⟩)] 119)).alloc (.cells #[.int .i64 kd, .int .i64 on, .int .i64 oa, .int .i64 ob, .slice s4.a s4.n s4.c, .slice s5.a s5.n s5.c, .int .i64 k.src, .int .i64 k.dst, .int .i64 k.proto, .int .i64 k.port, .int .i64 d0, .int .i64 d1, .int .i64 d2, .int .i64 d3, .int .i64 q0, .int .i64 q1, .int .i64 q2, .int .i64 q3, .slice s18.a s18.n s18.c, .slice s19.a s19.n s19.c] 88))) (by simp [go_sem]) hb1
  have s8 : w1.cell? ⟨w.heap.size + 1, 8, none⟩ = some (.int .i64 k.proto) := cell_to (w := ((w.alloc (.cells #[.pointer (some ⟨tb, 0, none⟩), .pointer (some ⟨rb, 0, none⟩)] 119)).alloc (.cells #[.int .i64 kd, .int .i64 on, .int .i64 oa, .int .i64 ob, .slice s4.a s4.n s4.c, .slice s5.a s5.n s5.c, .int .i64 k.src, .int .i64 k.dst, .int .i64 k.proto, .int .i64 k.port, .int .i64 d0, .int .i64 d1, .int .i64 d2, .int .i64 d3, .int .i64 q0, .int .i64 q1, .int .i64 q2, .int .i64 q3, .slice s18.a s18.n s18.c, .slice s19.a s19.n s19.c] 88))) (by simp [go_sem]) hb1
  have s9 : w1.cell? ⟨w.heap.size + 1, 9, none⟩ = some (.int .i64 k.port) := cell_to (w := ((w.alloc (.cells #[.pointer (some ⟨tb, 0, none⟩), .pointer (some ⟨rb, 0, none⟩)] 119)).alloc (.cells #[.int .i64 kd, .int .i64 on, .int .i64 oa, .int .i64 ob, .slice s4.a s4.n s4.c, .slice s5.a s5.n s5.c, .int .i64 k.src, .int .i64 k.dst, .int .i64 k.proto, .int .i64 k.port, .int .i64 d0, .int .i64 d1, .int .i64 d2, .int .i64 d3, .int .i64 q0, .int .i64 q1, .int .i64 q2, .int .i64 q3, .slice s18.a s18.n s18.c, .slice s19.a s19.n s19.c] 88))) (by simp [go_sem]) hb1
  have p0 : w1.cell? ⟨w.heap.size, 0, none⟩ = some (.pointer (some ⟨tb, 0, none⟩)) := cell_to (w := ((w.alloc (.cells #[.pointer (some ⟨tb, 0, none⟩), .pointer (some ⟨rb, 0, none⟩)] 119)).alloc (.cells #[.int .i64 kd, .int .i64 on, .int .i64 oa, .int .i64 ob, .slice s4.a s4.n s4.c, .slice s5.a s5.n s5.c, .int .i64 k.src, .int .i64 k.dst, .int .i64 k.proto, .int .i64 k.port, .int .i64 d0, .int .i64 d1, .int .i64 d2, .int .i64 d3, .int .i64 q0, .int .i64 q1, .int .i64 q2, .int .i64 q3, .slice s18.a s18.n s18.c, .slice s19.a s19.n s19.c] 88))) (by simp [go_sem]) hb1
  have p1 : w1.cell? ⟨w.heap.size, 1, none⟩ = some (.pointer (some ⟨rb, 0, none⟩)) := cell_to (w := ((w.alloc (.cells #[.pointer (some ⟨tb, 0, none⟩), .pointer (some ⟨rb, 0, none⟩)] 119)).alloc (.cells #[.int .i64 kd, .int .i64 on, .int .i64 oa, .int .i64 ob, .slice s4.a s4.n s4.c, .slice s5.a s5.n s5.c, .int .i64 k.src, .int .i64 k.dst, .int .i64 k.proto, .int .i64 k.port, .int .i64 d0, .int .i64 d1, .int .i64 d2, .int .i64 d3, .int .i64 q0, .int .i64 q1, .int .i64 q2, .int .i64 q3, .slice s18.a s18.n s18.c, .slice s19.a s19.n s19.c] 88))) (by simp [go_sem]) hb1
  have HB1 := hid (show Below w.heap.size w w1 from Ext.trans (show Below w.heap.size w ((w.alloc (.cells #[.pointer (some ⟨tb, 0, none⟩), .pointer (some ⟨rb, 0, none⟩)] 119)).alloc (.cells #[.int .i64 kd, .int .i64 on, .int .i64 oa, .int .i64 ob, .slice s4.a s4.n s4.c, .slice s5.a s5.n s5.c, .int .i64 k.src, .int .i64 k.dst, .int .i64 k.proto, .int .i64 k.port, .int .i64 d0, .int .i64 d1, .int .i64 d2, .int .i64 d3, .int .i64 q0, .int .i64 q1, .int .i64 q2, .int .i64 q3, .slice s18.a s18.n s18.c, .slice s19.a s19.n s19.c] 88)) from bel) hb1)
  have hfst : fstOf k l = (n : Int) := by rw [fstOf, hn]
  rw [hfst] at HFI
  have hs1 := hb1.size
  rw [hsW] at hs1
  have t0 := cell_to r0 HB1.out
  have t1 := cell_to r1 HB1.out
  clear hb1 hbW hsW r0 r1 hn hfst
  go_wp2_with fail
  refine (HDEC.out w1 t0 t1 (rdPods.to HP.out HB1.out) (rdPols.to HQ.out HB1.out)).mono ?_
  rintro e w2 ⟨rfl, hb2⟩
  have hs2 := hb2.size
  have HB2 := hid (Ext.trans HB1.out hb2)
  have y2 := cell_to s2 hb2
  have y3 := cell_to s3 hb2
  have y6 := cell_to s6 hb2
  have y7 := cell_to s7 hb2
  have y8 := cell_to s8 hb2
  have y9 := cell_to s9 hb2
  have z0 := cell_to p0 hb2
  clear s2 s3 s6 s7 s8 s9 p0 p1 hb2 t0 t1
  cases dd <;> (
    go_wp2_with fail
    refine (num_any 0 _).mono ?_
    rintro e w3 ⟨rfl, rfl⟩
    go_wp2_with fail
    refine (HROW.out w3 (HT.out.to HB2.out)).mono ?_
    rintro e w4 ⟨⟨v, rfl, hown⟩, hb4⟩
    have hs4 := hb4.size
    have HB4 := hid (Ext.trans HB2.out hb4)
    obtain ⟨ra, rc, rfl, hrc, hrr⟩ := own_rows hown (by omega)
    have HOWN := hid hown
    have HRR := hid hrr
    have x6 := cell_to y6 hb4
    have x7 := cell_to y7 hb4
    have x8 := cell_to y8 hb4
    have x9 := cell_to y9 hb4
    clear hb4 hown hrr y2 y3 y6 y7 y8 y9 z0
    go_wp2_with fail
    refine (table_any l L ra rc w4 HRR.out HOK.out HL.out (by omega)).mono ?_
    rintro e w5 ⟨rfl, hb5⟩
    have hs5 := hb5.size
    have HB5 := hid (Ext.trans HB4.out hb5)
    have HOWN5 := hid (own_to HOWN.out hb5)
    have HRR5 := hid (rdRows.to HRR.out hb5)
    have y6 := cell_to x6 hb5
    have y7 := cell_to x7 hb5
    have y8 := cell_to x8 hb5
    have y9 := cell_to x9 hb5
    clear hb5 x6 x7 x8 x9
    go_wp2_with fail
    refine (num_any 0 _).mono ?_
    rintro e w6 ⟨rfl, rfl⟩
    go_wp2_with fail
    refine (HFI.out w6 ra rc HRR5.out HOK.out).mono ?_
    rintro e w7 ⟨rfl, hb7⟩
    have hs7 := hb7.size
    have HB7 := hid (Ext.trans HB5.out hb7)
    have HOWN7 := hid (own_to HOWN5.out hb7)
    clear hb7 y6 y7 y8 y9
    go_wp2_with fail
    refine (keep_any wb B (w.heap.size + 2) vl vd _ Ds l.length _ w7 ((HB7.out.block wb hbl).trans HBLK.out) (own_to HOD.out HB7.out) hDl (own_weak HOWN7.out (by omega)) (by omega) hBw (by omega) (fun g hg => by have := HOD.out.lt g hg; omega) (by omega) (by omega)).mono ?_
    rintro e w8 ⟨rfl, hkept⟩
    have HKP := hid hkept
    clear hkept
    go_wp2
    go_ret
    exact ⟨rfl, w7, _, _, HB7.out, by omega, fun g hg => by have := HOWN7.out.lt g hg; omega, HKP.out⟩)
end Go.Proofs.YtmkjlhplgcifiaaGreat
