/-
  palisadelaw: World.step, walked: which callee is asked.
-/
import Derived.Test.YtmkjlhplgcifiaaGreatH45
namespace Go.Proofs.YtmkjlhplgcifiaaGreat
open Go.ChangeShapes Go.WideShapes Go.ChangeAt Go.RowKit
set_option linter.unusedVariables false
set_option linter.unusedSimpArgs false
attribute [local simp] World.cell?_grow World.cell?_alloc_there
attribute [local go_sem] World.cell?_grow World.cell?_alloc_there eqg_blk std_blk eqg_pod std_pod eqg_sel std_sel eqg_prt std_prt eqg_row std_row
attribute [local go_sem ↓] eql_blk eql_sel neq_sel eql_prt eql_pod met_in1 met_in2 met_re1 met_re2 met_has1 met_has2 met_bl1 met_bl2 neq_row
theorem op_size : (Tryz.prog.info? 88).map (·.size) = some 20 := by kernel_rfl
set_option maxRecDepth 100000 in
set_option maxHeartbeats 4000000 in
theorem step_one (on oa ob d0 d1 d2 d3 q0 q1 q2 q3 : Int) (s4 s5 s18 s19 : DSl) (k : DPkt) (wb : Nat) (w : World) (Q : World → Prop) (HC : Hid (∀ W, Below w.heap.size w W → Calls Tryz.prog 48 #[.agg #[.int .i64 1, .int .i64 on, .int .i64 oa, .int .i64 ob, .slice s4.a s4.n s4.c, .slice s5.a s5.n s5.c, .int .i64 k.src, .int .i64 k.dst, .int .i64 k.proto, .int .i64 k.port, .int .i64 d0, .int .i64 d1, .int .i64 d2, .int .i64 d3, .int .i64 q0, .int .i64 q1, .int .i64 q2, .int .i64 q3, .slice s18.a s18.n s18.c, .slice s19.a s19.n s19.c]] W fun e w' => e = .returned (.bool true) ∧ Q w')) :
    Calls Tryz.prog 30 #[.pointer (some ⟨wb, 0, none⟩), .agg #[.int .i64 1, .int .i64 on, .int .i64 oa, .int .i64 ob, .slice s4.a s4.n s4.c, .slice s5.a s5.n s5.c, .int .i64 k.src, .int .i64 k.dst, .int .i64 k.proto, .int .i64 k.port, .int .i64 d0, .int .i64 d1, .int .i64 d2, .int .i64 d3, .int .i64 q0, .int .i64 q1, .int .i64 q2, .int .i64 q3, .slice s18.a s18.n s18.c, .slice s19.a s19.n s19.c]] w fun e w' => e = .returned (.bool true) ∧ Q w' := by
  go_enter Tryz.func30, Tryz.ntmps30
  go_upto_block 0 with fail
  generalize hW : w.alloc (Obj.cells #[.int .i64 1, .int .i64 on, .int .i64 oa, .int .i64 ob, .slice s4.a s4.n s4.c, .slice s5.a s5.n s5.c, .int .i64 k.src, .int .i64 k.dst, .int .i64 k.proto, .int .i64 k.port, .int .i64 d0, .int .i64 d1, .int .i64 d2, .int .i64 d3, .int .i64 q0, .int .i64 q1, .int .i64 q2, .int .i64 q3, .slice s18.a s18.n s18.c, .slice s19.a s19.n s19.c] 88) = W
  have HSW := hid (show w.heap.size < W.heap.size from by rw [← hW]; simp)
  have HBW := hid (show Below w.heap.size w W from by rw [← hW]; exact bel)
  have a0 : W.cell? ⟨w.heap.size, 0, none⟩ = some (.int .i64 1) := by rw [← hW]; simp [go_sem]
  have HBLK := hid (show W.heap[w.heap.size]? = some (.cells #[.int .i64 1, .int .i64 on, .int .i64 oa, .int .i64 ob, .slice s4.a s4.n s4.c, .slice s5.a s5.n s5.c, .int .i64 k.src, .int .i64 k.dst, .int .i64 k.proto, .int .i64 k.port, .int .i64 d0, .int .i64 d1, .int .i64 d2, .int .i64 d3, .int .i64 q0, .int .i64 q1, .int .i64 q2, .int .i64 q3, .slice s18.a s18.n s18.c, .slice s19.a s19.n s19.c] 88 (0, 0)) from by rw [← hW]; exact new_heap _ _)
  clear hW
  go_wp2_with (refine wpList_load_row rfl 88 _ rfl w.heap.size rfl 88 _ (0, 0) _ HBLK.out Tryz.underlying88 rfl op_size ?_)
  refine (HC.out W HBW.out).mono ?_
  rintro e w1 ⟨rfl, hq⟩
  have HQ := hid hq
  clear hq a0
  go_wp2
  go_ret
  exact ⟨rfl, HQ.out⟩
set_option maxRecDepth 100000 in
set_option maxHeartbeats 4000000 in
theorem step_two (on oa ob d0 d1 d2 d3 q0 q1 q2 q3 : Int) (s4 s5 s18 s19 : DSl) (k : DPkt) (wb : Nat) (w : World) (Q : World → Prop) (HC : Hid (∀ W, Below w.heap.size w W → Calls Tryz.prog 48 #[.agg #[.int .i64 2, .int .i64 on, .int .i64 oa, .int .i64 ob, .slice s4.a s4.n s4.c, .slice s5.a s5.n s5.c, .int .i64 k.src, .int .i64 k.dst, .int .i64 k.proto, .int .i64 k.port, .int .i64 d0, .int .i64 d1, .int .i64 d2, .int .i64 d3, .int .i64 q0, .int .i64 q1, .int .i64 q2, .int .i64 q3, .slice s18.a s18.n s18.c, .slice s19.a s19.n s19.c]] W fun e w' => e = .returned (.bool true) ∧ Q w')) :
    Calls Tryz.prog 30 #[.pointer (some ⟨wb, 0, none⟩), .agg #[.int .i64 2, .int .i64 on, .int .i64 oa, .int .i64 ob, .slice s4.a s4.n s4.c, .slice s5.a s5.n s5.c, .int .i64 k.src, .int .i64 k.dst, .int .i64 k.proto, .int .i64 k.port, .int .i64 d0, .int .i64 d1, .int .i64 d2, .int .i64 d3, .int .i64 q0, .int .i64 q1, .int .i64 q2, .int .i64 q3, .slice s18.a s18.n s18.c, .slice s19.a s19.n s19.c]] w fun e w' => e = .returned (.bool true) ∧ Q w' := by
  go_enter Tryz.func30, Tryz.ntmps30
  go_upto_block 0 with fail
  generalize hW : w.alloc (Obj.cells #[.int .i64 2, .int .i64 on, .int .i64 oa, .int .i64 ob, .slice s4.a s4.n s4.c, .slice s5.a s5.n s5.c, .int .i64 k.src, .int .i64 k.dst, .int .i64 k.proto, .int .i64 k.port, .int .i64 d0, .int .i64 d1, .int .i64 d2, .int .i64 d3, .int .i64 q0, .int .i64 q1, .int .i64 q2, .int .i64 q3, .slice s18.a s18.n s18.c, .slice s19.a s19.n s19.c] 88) = W
  have HSW := hid (show w.heap.size < W.heap.size from by rw [← hW]; simp)
  have HBW := hid (show Below w.heap.size w W from by rw [← hW]; exact bel)
  have a0 : W.cell? ⟨w.heap.size, 0, none⟩ = some (.int .i64 2) := by rw [← hW]; simp [go_sem]
  have HBLK := hid (show W.heap[w.heap.size]? = some (.cells #[.int .i64 2, .int .i64 on, .int .i64 oa, .int .i64 ob, .slice s4.a s4.n s4.c, .slice s5.a s5.n s5.c, .int .i64 k.src, .int .i64 k.dst, .int .i64 k.proto, .int .i64 k.port, .int .i64 d0, .int .i64 d1, .int .i64 d2, .int .i64 d3, .int .i64 q0, .int .i64 q1, .int .i64 q2, .int .i64 q3, .slice s18.a s18.n s18.c, .slice s19.a s19.n s19.c] 88 (0, 0)) from by rw [← hW]; exact new_heap _ _)
  clear hW
  go_wp2_with (refine wpList_load_row rfl 88 _ rfl w.heap.size rfl 88 _ (0, 0) _ HBLK.out Tryz.underlying88 rfl op_size ?_)
  refine (HC.out W HBW.out).mono ?_
  rintro e w1 ⟨rfl, hq⟩
  have HQ := hid hq
  clear hq a0
  go_wp2
  go_ret
  exact ⟨rfl, HQ.out⟩
set_option maxRecDepth 100000 in
set_option maxHeartbeats 4000000 in
theorem step_three (on oa ob d0 d1 d2 d3 q0 q1 q2 q3 : Int) (s4 s5 s18 s19 : DSl) (k : DPkt) (wb : Nat) (w : World) (Q : World → Prop) (HC : Hid (∀ W, Below w.heap.size w W → Calls Tryz.prog 49 #[.pointer (some ⟨wb, 0, none⟩), .agg #[.slice s4.a s4.n s4.c, .slice s5.a s5.n s5.c]] W fun e w' => e = .returned (.bool true) ∧ Q w')) :
    Calls Tryz.prog 30 #[.pointer (some ⟨wb, 0, none⟩), .agg #[.int .i64 3, .int .i64 on, .int .i64 oa, .int .i64 ob, .slice s4.a s4.n s4.c, .slice s5.a s5.n s5.c, .int .i64 k.src, .int .i64 k.dst, .int .i64 k.proto, .int .i64 k.port, .int .i64 d0, .int .i64 d1, .int .i64 d2, .int .i64 d3, .int .i64 q0, .int .i64 q1, .int .i64 q2, .int .i64 q3, .slice s18.a s18.n s18.c, .slice s19.a s19.n s19.c]] w fun e w' => e = .returned (.bool true) ∧ Q w' := by
  go_enter Tryz.func30, Tryz.ntmps30
  go_upto_block 0 with fail
  generalize hW : w.alloc (Obj.cells #[.int .i64 3, .int .i64 on, .int .i64 oa, .int .i64 ob, .slice s4.a s4.n s4.c, .slice s5.a s5.n s5.c, .int .i64 k.src, .int .i64 k.dst, .int .i64 k.proto, .int .i64 k.port, .int .i64 d0, .int .i64 d1, .int .i64 d2, .int .i64 d3, .int .i64 q0, .int .i64 q1, .int .i64 q2, .int .i64 q3, .slice s18.a s18.n s18.c, .slice s19.a s19.n s19.c] 88) = W
  have HSW := hid (show w.heap.size < W.heap.size from by rw [← hW]; simp)
  have HBW := hid (show Below w.heap.size w W from by rw [← hW]; exact bel)
  have a0 : W.cell? ⟨w.heap.size, 0, none⟩ = some (.int .i64 3) := by rw [← hW]; simp [go_sem]
  have a4 : W.cell? ⟨w.heap.size, 4, none⟩ = some (.slice s4.a s4.n s4.c) := by rw [← hW]; simp [go_sem]
  have a5 : W.cell? ⟨w.heap.size, 5, none⟩ = some (.slice s5.a s5.n s5.c) := by rw [← hW]; simp [go_sem]
  have HBLK := hid (show W.heap[w.heap.size]? = some (.cells #[.int .i64 3, .int .i64 on, .int .i64 oa, .int .i64 ob, .slice s4.a s4.n s4.c, .slice s5.a s5.n s5.c, .int .i64 k.src, .int .i64 k.dst, .int .i64 k.proto, .int .i64 k.port, .int .i64 d0, .int .i64 d1, .int .i64 d2, .int .i64 d3, .int .i64 q0, .int .i64 q1, .int .i64 q2, .int .i64 q3, .slice s18.a s18.n s18.c, .slice s19.a s19.n s19.c] 88 (0, 0)) from by rw [← hW]; exact new_heap _ _)
  clear hW
  go_wp2_with (refine wpList_load_row rfl 88 _ rfl w.heap.size rfl 88 _ (0, 0) _ HBLK.out Tryz.underlying88 rfl op_size ?_)
  refine (HC.out W HBW.out).mono ?_
  rintro e w1 ⟨rfl, hq⟩
  have HQ := hid hq
  clear hq a0 a4 a5
  go_wp2
  go_ret
  exact ⟨rfl, HQ.out⟩
set_option maxRecDepth 100000 in
set_option maxHeartbeats 4000000 in
theorem step_empty (on oa ob d0 d1 d2 d3 q0 q1 q2 q3 : Int) (s4 s5 s18 s19 : DSl) (k : DPkt) (kd : Int) (wb : Nat) (la : Option Addr) (lc : Nat) (w : World) (h1 : ¬ kd = 1) (h2 : ¬ kd = 2) (h3 : ¬ kd = 3) (hl : w.cell? ⟨wb, 0, none⟩ = some (.slice la 0 lc)) :
    Calls Tryz.prog 30 #[.pointer (some ⟨wb, 0, none⟩), .agg #[.int .i64 kd, .int .i64 on, .int .i64 oa, .int .i64 ob, .slice s4.a s4.n s4.c, .slice s5.a s5.n s5.c, .int .i64 k.src, .int .i64 k.dst, .int .i64 k.proto, .int .i64 k.port, .int .i64 d0, .int .i64 d1, .int .i64 d2, .int .i64 d3, .int .i64 q0, .int .i64 q1, .int .i64 q2, .int .i64 q3, .slice s18.a s18.n s18.c, .slice s19.a s19.n s19.c]] w fun e w' => e = .returned (.bool true) ∧ Below w.heap.size w w' := by
  go_enter Tryz.func30, Tryz.ntmps30
  go_upto_block 0 with fail
  generalize hW : w.alloc (Obj.cells #[.int .i64 kd, .int .i64 on, .int .i64 oa, .int .i64 ob, .slice s4.a s4.n s4.c, .slice s5.a s5.n s5.c, .int .i64 k.src, .int .i64 k.dst, .int .i64 k.proto, .int .i64 k.port, .int .i64 d0, .int .i64 d1, .int .i64 d2, .int .i64 d3, .int .i64 q0, .int .i64 q1, .int .i64 q2, .int .i64 q3, .slice s18.a s18.n s18.c, .slice s19.a s19.n s19.c] 88) = W
  have HSW := hid (show w.heap.size < W.heap.size from by rw [← hW]; simp)
  have HBW := hid (show Below w.heap.size w W from by rw [← hW]; exact bel)
  have a0 : W.cell? ⟨w.heap.size, 0, none⟩ = some (.int .i64 kd) := by rw [← hW]; simp [go_sem]
  have HBLK := hid (show W.heap[w.heap.size]? = some (.cells #[.int .i64 kd, .int .i64 on, .int .i64 oa, .int .i64 ob, .slice s4.a s4.n s4.c, .slice s5.a s5.n s5.c, .int .i64 k.src, .int .i64 k.dst, .int .i64 k.proto, .int .i64 k.port, .int .i64 d0, .int .i64 d1, .int .i64 d2, .int .i64 d3, .int .i64 q0, .int .i64 q1, .int .i64 q2, .int .i64 q3, .slice s18.a s18.n s18.c, .slice s19.a s19.n s19.c] 88 (0, 0)) from by rw [← hW]; exact new_heap _ _)
  clear hW
  have hl2 := cell_to hl HBW.out
  clear hl
  go_wp2
  go_ret
  exact ⟨rfl, HBW.out⟩
set_option maxRecDepth 100000 in
set_option maxHeartbeats 4000000 in
theorem step_four (on oa ob d0 d1 d2 d3 q0 q1 q2 q3 : Int) (s4 s5 s18 s19 : DSl) (k : DPkt) (wb g lc n j tb rb : Nat) (w : World) (Q : World → Prop) (hn : n ≤ 4611686018427387904) (hj : j < n) (hon : i64 on) (hpk : pk on n = (j : Int)) (hl : w.cell? ⟨wb, 0, none⟩ = some (.slice (some ⟨g, 0, none⟩) n lc)) (c0 : w.cell? ⟨g, j * 2, none⟩ = some (.pointer (some ⟨tb, 0, none⟩))) (c1 : w.cell? ⟨g, j * 2 + 1, none⟩ = some (.pointer (some ⟨rb, 0, none⟩)))
    (HC : Hid (∀ W, Below w.heap.size w W → Calls Tryz.prog 51 #[.pointer (some ⟨wb, 0, none⟩), .agg #[.pointer (some ⟨tb, 0, none⟩), .pointer (some ⟨rb, 0, none⟩)], .agg #[.int .i64 4, .int .i64 on, .int .i64 oa, .int .i64 ob, .slice s4.a s4.n s4.c, .slice s5.a s5.n s5.c, .int .i64 k.src, .int .i64 k.dst, .int .i64 k.proto, .int .i64 k.port, .int .i64 d0, .int .i64 d1, .int .i64 d2, .int .i64 d3, .int .i64 q0, .int .i64 q1, .int .i64 q2, .int .i64 q3, .slice s18.a s18.n s18.c, .slice s19.a s19.n s19.c]] W fun e w' => e = .returned (.bool true) ∧ Q w')) :
    Calls Tryz.prog 30 #[.pointer (some ⟨wb, 0, none⟩), .agg #[.int .i64 4, .int .i64 on, .int .i64 oa, .int .i64 ob, .slice s4.a s4.n s4.c, .slice s5.a s5.n s5.c, .int .i64 k.src, .int .i64 k.dst, .int .i64 k.proto, .int .i64 k.port, .int .i64 d0, .int .i64 d1, .int .i64 d2, .int .i64 d3, .int .i64 q0, .int .i64 q1, .int .i64 q2, .int .i64 q3, .slice s18.a s18.n s18.c, .slice s19.a s19.n s19.c]] w fun e w' => e = .returned (.bool true) ∧ Q w' := by
  have HPK := hid (show ∀ W, Calls Tryz.prog 50 #[.int .i64 on, .int .i64 (n : Int)] W fun e w' => e = .returned (.int .i64 (j : Int)) ∧ w' = W from fun W => by rw [← hpk]; exact lawPick_any on n W hon (by omega) (by omega))
  clear hpk hon
  have hn0 : ¬ ((n : Int) = 0) := by omega
  have hj1 : (j : Int) < (n : Int) := by omega
  have hj0 : ¬ ((j : Int) < 0) := by omega
  go_enter Tryz.func30, Tryz.ntmps30
  go_upto_block 0 with fail
  generalize hW : w.alloc (Obj.cells #[.int .i64 4, .int .i64 on, .int .i64 oa, .int .i64 ob, .slice s4.a s4.n s4.c, .slice s5.a s5.n s5.c, .int .i64 k.src, .int .i64 k.dst, .int .i64 k.proto, .int .i64 k.port, .int .i64 d0, .int .i64 d1, .int .i64 d2, .int .i64 d3, .int .i64 q0, .int .i64 q1, .int .i64 q2, .int .i64 q3, .slice s18.a s18.n s18.c, .slice s19.a s19.n s19.c] 88) = W
  have HSW := hid (show w.heap.size < W.heap.size from by rw [← hW]; simp)
  have HBW := hid (show Below w.heap.size w W from by rw [← hW]; exact bel)
  have a0 : W.cell? ⟨w.heap.size, 0, none⟩ = some (.int .i64 4) := by rw [← hW]; simp [go_sem]
  have a1 : W.cell? ⟨w.heap.size, 1, none⟩ = some (.int .i64 on) := by rw [← hW]; simp [go_sem]
  have HBLK := hid (show W.heap[w.heap.size]? = some (.cells #[.int .i64 4, .int .i64 on, .int .i64 oa, .int .i64 ob, .slice s4.a s4.n s4.c, .slice s5.a s5.n s5.c, .int .i64 k.src, .int .i64 k.dst, .int .i64 k.proto, .int .i64 k.port, .int .i64 d0, .int .i64 d1, .int .i64 d2, .int .i64 d3, .int .i64 q0, .int .i64 q1, .int .i64 q2, .int .i64 q3, .slice s18.a s18.n s18.c, .slice s19.a s19.n s19.c] 88 (0, 0)) from by rw [← hW]; exact new_heap _ _)
  clear hW
  have b0 := cell_to hl HBW.out
  have b1 := cell_to c0 HBW.out
  have b2 := cell_to c1 HBW.out
  clear hl c0 c1
  go_wp2_with fail
  go_cut [5] from 25 to 38 (fun x wx => x = .pointer (some ⟨W.heap.size, 0, none⟩) ∧ wx = (W.alloc (.cells #[.pointer (some ⟨tb, 0, none⟩), .pointer (some ⟨rb, 0, none⟩)] 119)).drew)
  case first =>
    go_region_held3 (fun w' => w'.cell? ⟨wb, 0, none⟩ = some (.slice (some ⟨g, 0, none⟩) n lc) ∧ w'.cell? ⟨w.heap.size, 1, none⟩ = some (.int .i64 on) ∧ w'.cell? ⟨g, j * 2, none⟩ = some (.pointer (some ⟨tb, 0, none⟩)) ∧ w'.cell? ⟨g, j * 2 + 1, none⟩ = some (.pointer (some ⟨rb, 0, none⟩))) (go_keep) (first
      | (go_at_call 50; refine (HPK.out _).mono ?_; rintro e w' ⟨rfl, rfl⟩))
    all_goals (
      go_wp2_with fail
      go_meet
      exact ⟨rfl, rfl⟩)
  case rest =>
    obtain ⟨rfl, hwx⟩ := hcut
    have hB7 : Below W.heap.size W wc := by rw [hwx]; exact bel
    have p0 : wc.cell? ⟨W.heap.size, 0, none⟩ = some (.pointer (some ⟨tb, 0, none⟩)) := by rw [hwx]; exact (blk_cell (new_heap W _) 0).trans rfl
    have p1 : wc.cell? ⟨W.heap.size, 1, none⟩ = some (.pointer (some ⟨rb, 0, none⟩)) := by rw [hwx]; exact (blk_cell (new_heap W _) 1).trans rfl
    have e0 := cell_to a0 hB7
    have e1 := cell_to a1 hB7
    have HB8 := hid (Ext.trans HBW.out hB7)
    have HBL8 := hid ((hB7.block w.heap.size HSW.out).trans HBLK.out)
    clear hwx hB7 b0 b1 b2 a0 a1
    go_wp2_with (refine wpList_load_row rfl 88 _ rfl w.heap.size rfl 88 _ (0, 0) _ HBL8.out Tryz.underlying88 rfl op_size ?_)
    refine (HC.out wc HB8.out).mono ?_
    rintro e w1 ⟨rfl, hq⟩
    have HQ := hid hq
    clear hq p0 p1 e0 e1
    go_wp2
    go_ret
    exact ⟨rfl, HQ.out⟩
set_option maxRecDepth 100000 in
set_option maxHeartbeats 4000000 in
theorem step_five (on oa ob d0 d1 d2 d3 q0 q1 q2 q3 : Int) (s4 s5 s18 s19 : DSl) (k : DPkt) (wb g lc n j tb rb : Nat) (w : World) (Q : World → Prop) (hn : n ≤ 4611686018427387904) (hj : j < n) (hon : i64 on) (hpk : pk on n = (j : Int)) (hl : w.cell? ⟨wb, 0, none⟩ = some (.slice (some ⟨g, 0, none⟩) n lc)) (c0 : w.cell? ⟨g, j * 2, none⟩ = some (.pointer (some ⟨tb, 0, none⟩))) (c1 : w.cell? ⟨g, j * 2 + 1, none⟩ = some (.pointer (some ⟨rb, 0, none⟩)))
    (HC : Hid (∀ W, Below w.heap.size w W → Calls Tryz.prog 52 #[.pointer (some ⟨wb, 0, none⟩), .agg #[.pointer (some ⟨tb, 0, none⟩), .pointer (some ⟨rb, 0, none⟩)], .agg #[.int .i64 5, .int .i64 on, .int .i64 oa, .int .i64 ob, .slice s4.a s4.n s4.c, .slice s5.a s5.n s5.c, .int .i64 k.src, .int .i64 k.dst, .int .i64 k.proto, .int .i64 k.port, .int .i64 d0, .int .i64 d1, .int .i64 d2, .int .i64 d3, .int .i64 q0, .int .i64 q1, .int .i64 q2, .int .i64 q3, .slice s18.a s18.n s18.c, .slice s19.a s19.n s19.c]] W fun e w' => e = .returned (.bool true) ∧ Q w')) :
    Calls Tryz.prog 30 #[.pointer (some ⟨wb, 0, none⟩), .agg #[.int .i64 5, .int .i64 on, .int .i64 oa, .int .i64 ob, .slice s4.a s4.n s4.c, .slice s5.a s5.n s5.c, .int .i64 k.src, .int .i64 k.dst, .int .i64 k.proto, .int .i64 k.port, .int .i64 d0, .int .i64 d1, .int .i64 d2, .int .i64 d3, .int .i64 q0, .int .i64 q1, .int .i64 q2, .int .i64 q3, .slice s18.a s18.n s18.c, .slice s19.a s19.n s19.c]] w fun e w' => e = .returned (.bool true) ∧ Q w' := by
  have HPK := hid (show ∀ W, Calls Tryz.prog 50 #[.int .i64 on, .int .i64 (n : Int)] W fun e w' => e = .returned (.int .i64 (j : Int)) ∧ w' = W from fun W => by rw [← hpk]; exact lawPick_any on n W hon (by omega) (by omega))
  clear hpk hon
  have hn0 : ¬ ((n : Int) = 0) := by omega
  have hj1 : (j : Int) < (n : Int) := by omega
  have hj0 : ¬ ((j : Int) < 0) := by omega
  go_enter Tryz.func30, Tryz.ntmps30
  go_upto_block 0 with fail
  generalize hW : w.alloc (Obj.cells #[.int .i64 5, .int .i64 on, .int .i64 oa, .int .i64 ob, .slice s4.a s4.n s4.c, .slice s5.a s5.n s5.c, .int .i64 k.src, .int .i64 k.dst, .int .i64 k.proto, .int .i64 k.port, .int .i64 d0, .int .i64 d1, .int .i64 d2, .int .i64 d3, .int .i64 q0, .int .i64 q1, .int .i64 q2, .int .i64 q3, .slice s18.a s18.n s18.c, .slice s19.a s19.n s19.c] 88) = W
  have HSW := hid (show w.heap.size < W.heap.size from by rw [← hW]; simp)
  have HBW := hid (show Below w.heap.size w W from by rw [← hW]; exact bel)
  have a0 : W.cell? ⟨w.heap.size, 0, none⟩ = some (.int .i64 5) := by rw [← hW]; simp [go_sem]
  have a1 : W.cell? ⟨w.heap.size, 1, none⟩ = some (.int .i64 on) := by rw [← hW]; simp [go_sem]
  have HBLK := hid (show W.heap[w.heap.size]? = some (.cells #[.int .i64 5, .int .i64 on, .int .i64 oa, .int .i64 ob, .slice s4.a s4.n s4.c, .slice s5.a s5.n s5.c, .int .i64 k.src, .int .i64 k.dst, .int .i64 k.proto, .int .i64 k.port, .int .i64 d0, .int .i64 d1, .int .i64 d2, .int .i64 d3, .int .i64 q0, .int .i64 q1, .int .i64 q2, .int .i64 q3, .slice s18.a s18.n s18.c, .slice s19.a s19.n s19.c] 88 (0, 0)) from by rw [← hW]; exact new_heap _ _)
  clear hW
  have b0 := cell_to hl HBW.out
  have b1 := cell_to c0 HBW.out
  have b2 := cell_to c1 HBW.out
  clear hl c0 c1
  go_wp2_with fail
  go_cut [5] from 25 to 38 (fun x wx => x = .pointer (some ⟨W.heap.size, 0, none⟩) ∧ wx = (W.alloc (.cells #[.pointer (some ⟨tb, 0, none⟩), .pointer (some ⟨rb, 0, none⟩)] 119)).drew)
  case first =>
    go_region_held3 (fun w' => w'.cell? ⟨wb, 0, none⟩ = some (.slice (some ⟨g, 0, none⟩) n lc) ∧ w'.cell? ⟨w.heap.size, 1, none⟩ = some (.int .i64 on) ∧ w'.cell? ⟨g, j * 2, none⟩ = some (.pointer (some ⟨tb, 0, none⟩)) ∧ w'.cell? ⟨g, j * 2 + 1, none⟩ = some (.pointer (some ⟨rb, 0, none⟩))) (go_keep) (first
      | (go_at_call 50; refine (HPK.out _).mono ?_; rintro e w' ⟨rfl, rfl⟩))
    all_goals (
      go_wp2_with fail
      go_meet
      exact ⟨rfl, rfl⟩)
  case rest =>
    obtain ⟨rfl, hwx⟩ := hcut
    have hB7 : Below W.heap.size W wc := by rw [hwx]; exact bel
    have p0 : wc.cell? ⟨W.heap.size, 0, none⟩ = some (.pointer (some ⟨tb, 0, none⟩)) := by rw [hwx]; exact (blk_cell (new_heap W _) 0).trans rfl
    have p1 : wc.cell? ⟨W.heap.size, 1, none⟩ = some (.pointer (some ⟨rb, 0, none⟩)) := by rw [hwx]; exact (blk_cell (new_heap W _) 1).trans rfl
    have e0 := cell_to a0 hB7
    have e1 := cell_to a1 hB7
    have HB8 := hid (Ext.trans HBW.out hB7)
    have HBL8 := hid ((hB7.block w.heap.size HSW.out).trans HBLK.out)
    clear hwx hB7 b0 b1 b2 a0 a1
    go_wp2_with (refine wpList_load_row rfl 88 _ rfl w.heap.size rfl 88 _ (0, 0) _ HBL8.out Tryz.underlying88 rfl op_size ?_)
    refine (HC.out wc HB8.out).mono ?_
    rintro e w1 ⟨rfl, hq⟩
    have HQ := hid hq
    clear hq p0 p1 e0 e1
    go_wp2
    go_ret
    exact ⟨rfl, HQ.out⟩
set_option maxRecDepth 100000 in
set_option maxHeartbeats 4000000 in
theorem step_six (on oa ob d0 d1 d2 d3 q0 q1 q2 q3 : Int) (s4 s5 s18 s19 : DSl) (k : DPkt) (wb g lc n j tb rb : Nat) (w : World) (Q : World → Prop) (hn : n ≤ 4611686018427387904) (hj : j < n) (hon : i64 on) (hpk : pk on n = (j : Int)) (hl : w.cell? ⟨wb, 0, none⟩ = some (.slice (some ⟨g, 0, none⟩) n lc)) (c0 : w.cell? ⟨g, j * 2, none⟩ = some (.pointer (some ⟨tb, 0, none⟩))) (c1 : w.cell? ⟨g, j * 2 + 1, none⟩ = some (.pointer (some ⟨rb, 0, none⟩)))
    (HC : Hid (∀ W, Below w.heap.size w W → Calls Tryz.prog 53 #[.agg #[.pointer (some ⟨tb, 0, none⟩), .pointer (some ⟨rb, 0, none⟩)], .agg #[.int .i64 6, .int .i64 on, .int .i64 oa, .int .i64 ob, .slice s4.a s4.n s4.c, .slice s5.a s5.n s5.c, .int .i64 k.src, .int .i64 k.dst, .int .i64 k.proto, .int .i64 k.port, .int .i64 d0, .int .i64 d1, .int .i64 d2, .int .i64 d3, .int .i64 q0, .int .i64 q1, .int .i64 q2, .int .i64 q3, .slice s18.a s18.n s18.c, .slice s19.a s19.n s19.c]] W fun e w' => e = .returned (.bool true) ∧ Q w')) :
    Calls Tryz.prog 30 #[.pointer (some ⟨wb, 0, none⟩), .agg #[.int .i64 6, .int .i64 on, .int .i64 oa, .int .i64 ob, .slice s4.a s4.n s4.c, .slice s5.a s5.n s5.c, .int .i64 k.src, .int .i64 k.dst, .int .i64 k.proto, .int .i64 k.port, .int .i64 d0, .int .i64 d1, .int .i64 d2, .int .i64 d3, .int .i64 q0, .int .i64 q1, .int .i64 q2, .int .i64 q3, .slice s18.a s18.n s18.c, .slice s19.a s19.n s19.c]] w fun e w' => e = .returned (.bool true) ∧ Q w' := by
  have HPK := hid (show ∀ W, Calls Tryz.prog 50 #[.int .i64 on, .int .i64 (n : Int)] W fun e w' => e = .returned (.int .i64 (j : Int)) ∧ w' = W from fun W => by rw [← hpk]; exact lawPick_any on n W hon (by omega) (by omega))
  clear hpk hon
  have hn0 : ¬ ((n : Int) = 0) := by omega
  have hj1 : (j : Int) < (n : Int) := by omega
  have hj0 : ¬ ((j : Int) < 0) := by omega
  go_enter Tryz.func30, Tryz.ntmps30
  go_upto_block 0 with fail
  generalize hW : w.alloc (Obj.cells #[.int .i64 6, .int .i64 on, .int .i64 oa, .int .i64 ob, .slice s4.a s4.n s4.c, .slice s5.a s5.n s5.c, .int .i64 k.src, .int .i64 k.dst, .int .i64 k.proto, .int .i64 k.port, .int .i64 d0, .int .i64 d1, .int .i64 d2, .int .i64 d3, .int .i64 q0, .int .i64 q1, .int .i64 q2, .int .i64 q3, .slice s18.a s18.n s18.c, .slice s19.a s19.n s19.c] 88) = W
  have HSW := hid (show w.heap.size < W.heap.size from by rw [← hW]; simp)
  have HBW := hid (show Below w.heap.size w W from by rw [← hW]; exact bel)
  have a0 : W.cell? ⟨w.heap.size, 0, none⟩ = some (.int .i64 6) := by rw [← hW]; simp [go_sem]
  have a1 : W.cell? ⟨w.heap.size, 1, none⟩ = some (.int .i64 on) := by rw [← hW]; simp [go_sem]
  have HBLK := hid (show W.heap[w.heap.size]? = some (.cells #[.int .i64 6, .int .i64 on, .int .i64 oa, .int .i64 ob, .slice s4.a s4.n s4.c, .slice s5.a s5.n s5.c, .int .i64 k.src, .int .i64 k.dst, .int .i64 k.proto, .int .i64 k.port, .int .i64 d0, .int .i64 d1, .int .i64 d2, .int .i64 d3, .int .i64 q0, .int .i64 q1, .int .i64 q2, .int .i64 q3, .slice s18.a s18.n s18.c, .slice s19.a s19.n s19.c] 88 (0, 0)) from by rw [← hW]; exact new_heap _ _)
  clear hW
  have b0 := cell_to hl HBW.out
  have b1 := cell_to c0 HBW.out
  have b2 := cell_to c1 HBW.out
  clear hl c0 c1
  go_wp2_with fail
  go_cut [5] from 25 to 38 (fun x wx => x = .pointer (some ⟨W.heap.size, 0, none⟩) ∧ wx = (W.alloc (.cells #[.pointer (some ⟨tb, 0, none⟩), .pointer (some ⟨rb, 0, none⟩)] 119)).drew)
  case first =>
    go_region_held3 (fun w' => w'.cell? ⟨wb, 0, none⟩ = some (.slice (some ⟨g, 0, none⟩) n lc) ∧ w'.cell? ⟨w.heap.size, 1, none⟩ = some (.int .i64 on) ∧ w'.cell? ⟨g, j * 2, none⟩ = some (.pointer (some ⟨tb, 0, none⟩)) ∧ w'.cell? ⟨g, j * 2 + 1, none⟩ = some (.pointer (some ⟨rb, 0, none⟩))) (go_keep) (first
      | (go_at_call 50; refine (HPK.out _).mono ?_; rintro e w' ⟨rfl, rfl⟩))
    all_goals (
      go_wp2_with fail
      go_meet
      exact ⟨rfl, rfl⟩)
  case rest =>
    obtain ⟨rfl, hwx⟩ := hcut
    have hB7 : Below W.heap.size W wc := by rw [hwx]; exact bel
    have p0 : wc.cell? ⟨W.heap.size, 0, none⟩ = some (.pointer (some ⟨tb, 0, none⟩)) := by rw [hwx]; exact (blk_cell (new_heap W _) 0).trans rfl
    have p1 : wc.cell? ⟨W.heap.size, 1, none⟩ = some (.pointer (some ⟨rb, 0, none⟩)) := by rw [hwx]; exact (blk_cell (new_heap W _) 1).trans rfl
    have e0 := cell_to a0 hB7
    have e1 := cell_to a1 hB7
    have HB8 := hid (Ext.trans HBW.out hB7)
    have HBL8 := hid ((hB7.block w.heap.size HSW.out).trans HBLK.out)
    clear hwx hB7 b0 b1 b2 a0 a1
    go_wp2_with (refine wpList_load_row rfl 88 _ rfl w.heap.size rfl 88 _ (0, 0) _ HBL8.out Tryz.underlying88 rfl op_size ?_)
    refine (HC.out wc HB8.out).mono ?_
    rintro e w1 ⟨rfl, hq⟩
    have HQ := hid hq
    clear hq p0 p1 e0 e1
    go_wp2
    go_ret
    exact ⟨rfl, HQ.out⟩
set_option maxRecDepth 100000 in
set_option maxHeartbeats 4000000 in
theorem step_else (on oa ob d0 d1 d2 d3 q0 q1 q2 q3 : Int) (s4 s5 s18 s19 : DSl) (k : DPkt) (kd : Int) (wb g lc n j tb rb : Nat) (w : World) (Q : World → Prop) (h1 : ¬ kd = 1) (h2 : ¬ kd = 2) (h3 : ¬ kd = 3) (h4 : ¬ kd = 4) (h5 : ¬ kd = 5) (h6 : ¬ kd = 6) (hn : n ≤ 4611686018427387904) (hj : j < n) (hon : i64 on) (hpk : pk on n = (j : Int)) (hl : w.cell? ⟨wb, 0, none⟩ = some (.slice (some ⟨g, 0, none⟩) n lc)) (c0 : w.cell? ⟨g, j * 2, none⟩ = some (.pointer (some ⟨tb, 0, none⟩))) (c1 : w.cell? ⟨g, j * 2 + 1, none⟩ = some (.pointer (some ⟨rb, 0, none⟩)))
    (HC : Hid (∀ W, Below w.heap.size w W → Calls Tryz.prog 54 #[.agg #[.pointer (some ⟨tb, 0, none⟩), .pointer (some ⟨rb, 0, none⟩)], .agg #[.int .i64 kd, .int .i64 on, .int .i64 oa, .int .i64 ob, .slice s4.a s4.n s4.c, .slice s5.a s5.n s5.c, .int .i64 k.src, .int .i64 k.dst, .int .i64 k.proto, .int .i64 k.port, .int .i64 d0, .int .i64 d1, .int .i64 d2, .int .i64 d3, .int .i64 q0, .int .i64 q1, .int .i64 q2, .int .i64 q3, .slice s18.a s18.n s18.c, .slice s19.a s19.n s19.c]] W fun e w' => e = .returned (.bool true) ∧ Q w')) :
    Calls Tryz.prog 30 #[.pointer (some ⟨wb, 0, none⟩), .agg #[.int .i64 kd, .int .i64 on, .int .i64 oa, .int .i64 ob, .slice s4.a s4.n s4.c, .slice s5.a s5.n s5.c, .int .i64 k.src, .int .i64 k.dst, .int .i64 k.proto, .int .i64 k.port, .int .i64 d0, .int .i64 d1, .int .i64 d2, .int .i64 d3, .int .i64 q0, .int .i64 q1, .int .i64 q2, .int .i64 q3, .slice s18.a s18.n s18.c, .slice s19.a s19.n s19.c]] w fun e w' => e = .returned (.bool true) ∧ Q w' := by
  have HPK := hid (show ∀ W, Calls Tryz.prog 50 #[.int .i64 on, .int .i64 (n : Int)] W fun e w' => e = .returned (.int .i64 (j : Int)) ∧ w' = W from fun W => by rw [← hpk]; exact lawPick_any on n W hon (by omega) (by omega))
  clear hpk hon
  have hn0 : ¬ ((n : Int) = 0) := by omega
  have hj1 : (j : Int) < (n : Int) := by omega
  have hj0 : ¬ ((j : Int) < 0) := by omega
  go_enter Tryz.func30, Tryz.ntmps30
  go_upto_block 0 with fail
  generalize hW : w.alloc (Obj.cells #[.int .i64 kd, .int .i64 on, .int .i64 oa, .int .i64 ob, .slice s4.a s4.n s4.c, .slice s5.a s5.n s5.c, .int .i64 k.src, .int .i64 k.dst, .int .i64 k.proto, .int .i64 k.port, .int .i64 d0, .int .i64 d1, .int .i64 d2, .int .i64 d3, .int .i64 q0, .int .i64 q1, .int .i64 q2, .int .i64 q3, .slice s18.a s18.n s18.c, .slice s19.a s19.n s19.c] 88) = W
  have HSW := hid (show w.heap.size < W.heap.size from by rw [← hW]; simp)
  have HBW := hid (show Below w.heap.size w W from by rw [← hW]; exact bel)
  have a0 : W.cell? ⟨w.heap.size, 0, none⟩ = some (.int .i64 kd) := by rw [← hW]; simp [go_sem]
  have a1 : W.cell? ⟨w.heap.size, 1, none⟩ = some (.int .i64 on) := by rw [← hW]; simp [go_sem]
  have HBLK := hid (show W.heap[w.heap.size]? = some (.cells #[.int .i64 kd, .int .i64 on, .int .i64 oa, .int .i64 ob, .slice s4.a s4.n s4.c, .slice s5.a s5.n s5.c, .int .i64 k.src, .int .i64 k.dst, .int .i64 k.proto, .int .i64 k.port, .int .i64 d0, .int .i64 d1, .int .i64 d2, .int .i64 d3, .int .i64 q0, .int .i64 q1, .int .i64 q2, .int .i64 q3, .slice s18.a s18.n s18.c, .slice s19.a s19.n s19.c] 88 (0, 0)) from by rw [← hW]; exact new_heap _ _)
  clear hW
  have b0 := cell_to hl HBW.out
  have b1 := cell_to c0 HBW.out
  have b2 := cell_to c1 HBW.out
  clear hl c0 c1
  go_wp2_with fail
  go_cut [5] from 25 to 38 (fun x wx => x = .pointer (some ⟨W.heap.size, 0, none⟩) ∧ wx = (W.alloc (.cells #[.pointer (some ⟨tb, 0, none⟩), .pointer (some ⟨rb, 0, none⟩)] 119)).drew)
  case first =>
    go_region_held3 (fun w' => w'.cell? ⟨wb, 0, none⟩ = some (.slice (some ⟨g, 0, none⟩) n lc) ∧ w'.cell? ⟨w.heap.size, 1, none⟩ = some (.int .i64 on) ∧ w'.cell? ⟨g, j * 2, none⟩ = some (.pointer (some ⟨tb, 0, none⟩)) ∧ w'.cell? ⟨g, j * 2 + 1, none⟩ = some (.pointer (some ⟨rb, 0, none⟩))) (go_keep) (first
      | (go_at_call 50; refine (HPK.out _).mono ?_; rintro e w' ⟨rfl, rfl⟩))
    all_goals (
      go_wp2_with fail
      go_meet
      exact ⟨rfl, rfl⟩)
  case rest =>
    obtain ⟨rfl, hwx⟩ := hcut
    have hB7 : Below W.heap.size W wc := by rw [hwx]; exact bel
    have p0 : wc.cell? ⟨W.heap.size, 0, none⟩ = some (.pointer (some ⟨tb, 0, none⟩)) := by rw [hwx]; exact (blk_cell (new_heap W _) 0).trans rfl
    have p1 : wc.cell? ⟨W.heap.size, 1, none⟩ = some (.pointer (some ⟨rb, 0, none⟩)) := by rw [hwx]; exact (blk_cell (new_heap W _) 1).trans rfl
    have e0 := cell_to a0 hB7
    have e1 := cell_to a1 hB7
    have HB8 := hid (Ext.trans HBW.out hB7)
    have HBL8 := hid ((hB7.block w.heap.size HSW.out).trans HBLK.out)
    clear hwx hB7 b0 b1 b2 a0 a1
    go_wp2_with (refine wpList_load_row rfl 88 _ rfl w.heap.size rfl 88 _ (0, 0) _ HBL8.out Tryz.underlying88 rfl op_size ?_)
    refine (HC.out wc HB8.out).mono ?_
    rintro e w1 ⟨rfl, hq⟩
    have HQ := hid hq
    clear hq p0 p1 e0 e1
    go_wp2
    go_ret
    exact ⟨rfl, HQ.out⟩
set_option maxRecDepth 100000 in
set_option maxHeartbeats 4000000 in
theorem changes_other (on oa ob d0 d1 d2 d3 q0 q1 q2 q3 : Int) (s4 s5 s18 s19 : DSl) (k : DPkt) (kd : Int) (tb rb : Nat) (w : World) (h7 : ¬ kd = 7) (h8 : ¬ kd = 8) (h9 : ¬ kd = 9) (h10 : ¬ kd = 10) :
    Calls Tryz.prog 54 #[.agg #[.pointer (some ⟨tb, 0, none⟩), .pointer (some ⟨rb, 0, none⟩)], .agg #[.int .i64 kd, .int .i64 on, .int .i64 oa, .int .i64 ob, .slice s4.a s4.n s4.c, .slice s5.a s5.n s5.c, .int .i64 k.src, .int .i64 k.dst, .int .i64 k.proto, .int .i64 k.port, .int .i64 d0, .int .i64 d1, .int .i64 d2, .int .i64 d3, .int .i64 q0, .int .i64 q1, .int .i64 q2, .int .i64 q3, .slice s18.a s18.n s18.c, .slice s19.a s19.n s19.c]] w fun e w' => e = .returned (.bool true) ∧ Below w.heap.size w w' := by
  go_enter Tryz.func54, Tryz.ntmps54
  go_upto_block 0 with fail
  generalize hW : (w.alloc (Obj.cells #[.pointer (some ⟨tb, 0, none⟩), .pointer (some ⟨rb, 0, none⟩)] 119)).alloc (Obj.cells #[.int .i64 kd, .int .i64 on, .int .i64 oa, .int .i64 ob, .slice s4.a s4.n s4.c, .slice s5.a s5.n s5.c, .int .i64 k.src, .int .i64 k.dst, .int .i64 k.proto, .int .i64 k.port, .int .i64 d0, .int .i64 d1, .int .i64 d2, .int .i64 d3, .int .i64 q0, .int .i64 q1, .int .i64 q2, .int .i64 q3, .slice s18.a s18.n s18.c, .slice s19.a s19.n s19.c] 88) = W
  have HBW := hid (show Below w.heap.size w W from by rw [← hW]; exact bel)
  have a0 : W.cell? ⟨w.heap.size + 1, 0, none⟩ = some (.int .i64 kd) := by rw [← hW]; simp [go_sem]
  clear hW
  go_wp2
  go_ret
  exact ⟨rfl, HBW.out⟩
end Go.Proofs.YtmkjlhplgcifiaaGreat
