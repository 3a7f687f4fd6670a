/-
  palisadelaw: changes, walked: AddPod, DropPod, DropPolicy.
-/
import Derived.Test.YtmkjlhplgcifiaaGreatH31
import Derived.Test.YtmkjlhplgcifiaaGreatH13
import Derived.Test.YtmkjlhplgcifiaaGreatH39
namespace Go.Proofs.YtmkjlhplgcifiaaGreat
open Go.ChangeShapes Go.WideShapes Go.ChangeAt Go.RowKit
set_option linter.unusedVariables false
set_option linter.unusedSimpArgs false
attribute [local simp] World.cell?_grow World.cell?_alloc_there
attribute [local go_sem] World.cell?_grow World.cell?_alloc_there eqg_blk std_blk eqg_pod std_pod eqg_sel std_sel eqg_prt std_prt eqg_row std_row
attribute [local go_sem ↓] eql_blk eql_sel neq_sel eql_prt eql_pod met_in1 met_in2 met_re1 met_re2 met_has1 met_has2 met_bl1 met_bl2 neq_row
set_option maxRecDepth 100000 in
set_option maxHeartbeats 4000000 in
theorem changes_seven (on oa ob d0 d1 d2 d3 q0 q1 q2 q3 : Int) (s4 s5 s18 s19 : DSl) (k : DPkt) (tb rb : Nat) (n : Int) (w : World) (Q1 : World → World → Prop) (Q : World → Prop)
    (HC : Hid (∀ W, Below w.heap.size w W → Calls Tryz.prog 27 #[.pointer (some ⟨tb, 0, none⟩), .agg #[.int .i64 d0, .int .i64 d1, .int .i64 d2, .int .i64 d3]] W fun e w' => e = .returned (.int .i64 n) ∧ (∀ b, w.heap.size ≤ b → b < W.heap.size → w'.heap[b]? = W.heap[b]?) ∧ Q1 W w'))
    (HR : Hid (∀ W w1, Q1 W w1 → Calls Tryz.prog 84 #[.pointer (some ⟨rb, 0, none⟩), .agg #[.int .i64 d0, .int .i64 d1, .int .i64 d2, .int .i64 d3]] w1 fun e w' => e = .returned (.int .i64 n) ∧ Q w')) :
    Calls Tryz.prog 54 #[.agg #[.pointer (some ⟨tb, 0, none⟩), .pointer (some ⟨rb, 0, none⟩)], .agg #[.int .i64 7, .int .i64 on, .int .i64 oa, .int .i64 ob, .slice s4.a s4.n s4.c, .slice s5.a s5.n s5.c, .int .i64 k.src, .int .i64 k.dst, .int .i64 k.proto, .int .i64 k.port, .int .i64 d0, .int .i64 d1, .int .i64 d2, .int .i64 d3, .int .i64 q0, .int .i64 q1, .int .i64 q2, .int .i64 q3, .slice s18.a s18.n s18.c, .slice s19.a s19.n s19.c]] w fun e w' => e = .returned (.bool true) ∧ Q w' := by
  go_enter Tryz.func54, Tryz.ntmps54
  go_upto_block 0 with fail
  generalize hW : (w.alloc (Obj.cells #[.pointer (some ⟨tb, 0, none⟩), .pointer (some ⟨rb, 0, none⟩)] 119)).alloc (Obj.cells #[.int .i64 7, .int .i64 on, .int .i64 oa, .int .i64 ob, .slice s4.a s4.n s4.c, .slice s5.a s5.n s5.c, .int .i64 k.src, .int .i64 k.dst, .int .i64 k.proto, .int .i64 k.port, .int .i64 d0, .int .i64 d1, .int .i64 d2, .int .i64 d3, .int .i64 q0, .int .i64 q1, .int .i64 q2, .int .i64 q3, .slice s18.a s18.n s18.c, .slice s19.a s19.n s19.c] 88) = W
  have hsW : W.heap.size = w.heap.size + 2 := by rw [← hW]; simp
  have HBW := hid (show Below w.heap.size w W from by rw [← hW]; exact bel)
  have HBP := hid (show W.heap[w.heap.size]? = some (.cells #[.pointer (some ⟨tb, 0, none⟩), .pointer (some ⟨rb, 0, none⟩)] 119 (0, 0)) from by rw [← hW]; exact (Below.heap_alloc _ _ _ (by simp)).trans (new_heap _ _))
  have HBO := hid (show W.heap[w.heap.size + 1]? = some (.cells #[.int .i64 7, .int .i64 on, .int .i64 oa, .int .i64 ob, .slice s4.a s4.n s4.c, .slice s5.a s5.n s5.c, .int .i64 k.src, .int .i64 k.dst, .int .i64 k.proto, .int .i64 k.port, .int .i64 d0, .int .i64 d1, .int .i64 d2, .int .i64 d3, .int .i64 q0, .int .i64 q1, .int .i64 q2, .int .i64 q3, .slice s18.a s18.n s18.c, .slice s19.a s19.n s19.c] 88 (0, 0)) from by
    rw [← hW]
    have := new_heap (w.alloc (Obj.cells #[.pointer (some ⟨tb, 0, none⟩), .pointer (some ⟨rb, 0, none⟩)] 119)) (.cells #[.int .i64 7, .int .i64 on, .int .i64 oa, .int .i64 ob, .slice s4.a s4.n s4.c, .slice s5.a s5.n s5.c, .int .i64 k.src, .int .i64 k.dst, .int .i64 k.proto, .int .i64 k.port, .int .i64 d0, .int .i64 d1, .int .i64 d2, .int .i64 d3, .int .i64 q0, .int .i64 q1, .int .i64 q2, .int .i64 q3, .slice s18.a s18.n s18.c, .slice s19.a s19.n s19.c] 88)
    simp only [World.size_alloc] at this
    exact this)
  clear hW
  have a0 : W.cell? ⟨w.heap.size + 1, 0, none⟩ = some (.int .i64 7) := (blk_cell HBO.out 0).trans rfl
  have p0 : W.cell? ⟨w.heap.size, 0, none⟩ = some (.pointer (some ⟨tb, 0, none⟩)) := (blk_cell HBP.out 0).trans rfl
  have a10 : W.cell? ⟨w.heap.size + 1, 10, none⟩ = some (.int .i64 d0) := (blk_cell HBO.out 10).trans rfl
  have a11 : W.cell? ⟨w.heap.size + 1, 11, none⟩ = some (.int .i64 d1) := (blk_cell HBO.out 11).trans rfl
  have a12 : W.cell? ⟨w.heap.size + 1, 12, none⟩ = some (.int .i64 d2) := (blk_cell HBO.out 12).trans rfl
  have a13 : W.cell? ⟨w.heap.size + 1, 13, none⟩ = some (.int .i64 d3) := (blk_cell HBO.out 13).trans rfl
  go_wp2_with fail
  refine (HC.out W HBW.out).mono ?_
  rintro e w1 ⟨rfl, hk, hq⟩
  have HQ := hid hq
  have p1 : w1.cell? ⟨w.heap.size, 1, none⟩ = some (.pointer (some ⟨rb, 0, none⟩)) := (blk_cell ((hk w.heap.size (Nat.le_refl _) (by omega)).trans HBP.out) 1).trans rfl
  have b10 : w1.cell? ⟨w.heap.size + 1, 10, none⟩ = some (.int .i64 d0) := (blk_cell ((hk (w.heap.size + 1) (by omega) (by omega)).trans HBO.out) 10).trans rfl
  have b11 : w1.cell? ⟨w.heap.size + 1, 11, none⟩ = some (.int .i64 d1) := (blk_cell ((hk (w.heap.size + 1) (by omega) (by omega)).trans HBO.out) 11).trans rfl
  have b12 : w1.cell? ⟨w.heap.size + 1, 12, none⟩ = some (.int .i64 d2) := (blk_cell ((hk (w.heap.size + 1) (by omega) (by omega)).trans HBO.out) 12).trans rfl
  have b13 : w1.cell? ⟨w.heap.size + 1, 13, none⟩ = some (.int .i64 d3) := (blk_cell ((hk (w.heap.size + 1) (by omega) (by omega)).trans HBO.out) 13).trans rfl
  clear hk hq a0 p0 a10 a11 a12 a13
  go_wp2_with fail
  refine (HR.out W w1 HQ.out).mono ?_
  rintro e w2 ⟨rfl, hq⟩
  have HQ2 := hid hq
  clear hq p1 b10 b11 b12 b13
  go_wp2_with fail
  refine (num_any n _).mono ?_
  rintro e w3 ⟨rfl, rfl⟩
  go_wp2
  go_ret
  exact ⟨rfl, HQ2.out⟩
set_option maxRecDepth 100000 in
set_option maxHeartbeats 4000000 in
theorem changes_eight (on oa ob d0 d1 d2 d3 q0 q1 q2 q3 : Int) (s4 s5 s18 s19 : DSl) (k : DPkt) (tb rb : Nat) (n : Int) (w : World) (Q1 : World → World → Prop) (Q : World → Prop)
    (HC : Hid (∀ W, Below w.heap.size w W → Calls Tryz.prog 43 #[.pointer (some ⟨tb, 0, none⟩), .int .i64 oa] W fun e w' => e = .returned (.int .i64 n) ∧ (∀ b, w.heap.size ≤ b → b < W.heap.size → w'.heap[b]? = W.heap[b]?) ∧ Q1 W w'))
    (HR : Hid (∀ W w1, Q1 W w1 → Calls Tryz.prog 85 #[.pointer (some ⟨rb, 0, none⟩), .int .i64 oa] w1 fun e w' => e = .returned (.int .i64 n) ∧ Q w')) :
    Calls Tryz.prog 54 #[.agg #[.pointer (some ⟨tb, 0, none⟩), .pointer (some ⟨rb, 0, none⟩)], .agg #[.int .i64 8, .int .i64 on, .int .i64 oa, .int .i64 ob, .slice s4.a s4.n s4.c, .slice s5.a s5.n s5.c, .int .i64 k.src, .int .i64 k.dst, .int .i64 k.proto, .int .i64 k.port, .int .i64 d0, .int .i64 d1, .int .i64 d2, .int .i64 d3, .int .i64 q0, .int .i64 q1, .int .i64 q2, .int .i64 q3, .slice s18.a s18.n s18.c, .slice s19.a s19.n s19.c]] w fun e w' => e = .returned (.bool true) ∧ Q w' := by
  go_enter Tryz.func54, Tryz.ntmps54
  go_upto_block 0 with fail
  generalize hW : (w.alloc (Obj.cells #[.pointer (some ⟨tb, 0, none⟩), .pointer (some ⟨rb, 0, none⟩)] 119)).alloc (Obj.cells #[.int .i64 8, .int .i64 on, .int .i64 oa, .int .i64 ob, .slice s4.a s4.n s4.c, .slice s5.a s5.n s5.c, .int .i64 k.src, .int .i64 k.dst, .int .i64 k.proto, .int .i64 k.port, .int .i64 d0, .int .i64 d1, .int .i64 d2, .int .i64 d3, .int .i64 q0, .int .i64 q1, .int .i64 q2, .int .i64 q3, .slice s18.a s18.n s18.c, .slice s19.a s19.n s19.c] 88) = W
  have hsW : W.heap.size = w.heap.size + 2 := by rw [← hW]; simp
  have HBW := hid (show Below w.heap.size w W from by rw [← hW]; exact bel)
  have HBP := hid (show W.heap[w.heap.size]? = some (.cells #[.pointer (some ⟨tb, 0, none⟩), .pointer (some ⟨rb, 0, none⟩)] 119 (0, 0)) from by rw [← hW]; exact (Below.heap_alloc _ _ _ (by simp)).trans (new_heap _ _))
  have HBO := hid (show W.heap[w.heap.size + 1]? = some (.cells #[.int .i64 8, .int .i64 on, .int .i64 oa, .int .i64 ob, .slice s4.a s4.n s4.c, .slice s5.a s5.n s5.c, .int .i64 k.src, .int .i64 k.dst, .int .i64 k.proto, .int .i64 k.port, .int .i64 d0, .int .i64 d1, .int .i64 d2, .int .i64 d3, .int .i64 q0, .int .i64 q1, .int .i64 q2, .int .i64 q3, .slice s18.a s18.n s18.c, .slice s19.a s19.n s19.c] 88 (0, 0)) from by
    rw [← hW]
    have := new_heap (w.alloc (Obj.cells #[.pointer (some ⟨tb, 0, none⟩), .pointer (some ⟨rb, 0, none⟩)] 119)) (.cells #[.int .i64 8, .int .i64 on, .int .i64 oa, .int .i64 ob, .slice s4.a s4.n s4.c, .slice s5.a s5.n s5.c, .int .i64 k.src, .int .i64 k.dst, .int .i64 k.proto, .int .i64 k.port, .int .i64 d0, .int .i64 d1, .int .i64 d2, .int .i64 d3, .int .i64 q0, .int .i64 q1, .int .i64 q2, .int .i64 q3, .slice s18.a s18.n s18.c, .slice s19.a s19.n s19.c] 88)
    simp only [World.size_alloc] at this
    exact this)
  clear hW
  have a0 : W.cell? ⟨w.heap.size + 1, 0, none⟩ = some (.int .i64 8) := (blk_cell HBO.out 0).trans rfl
  have p0 : W.cell? ⟨w.heap.size, 0, none⟩ = some (.pointer (some ⟨tb, 0, none⟩)) := (blk_cell HBP.out 0).trans rfl
  have a2 : W.cell? ⟨w.heap.size + 1, 2, none⟩ = some (.int .i64 oa) := (blk_cell HBO.out 2).trans rfl
  go_wp2_with fail
  refine (HC.out W HBW.out).mono ?_
  rintro e w1 ⟨rfl, hk, hq⟩
  have HQ := hid hq
  have p1 : w1.cell? ⟨w.heap.size, 1, none⟩ = some (.pointer (some ⟨rb, 0, none⟩)) := (blk_cell ((hk w.heap.size (Nat.le_refl _) (by omega)).trans HBP.out) 1).trans rfl
  have b2 : w1.cell? ⟨w.heap.size + 1, 2, none⟩ = some (.int .i64 oa) := (blk_cell ((hk (w.heap.size + 1) (by omega) (by omega)).trans HBO.out) 2).trans rfl
  clear hk hq a0 p0 a2
  go_wp2_with fail
  refine (HR.out W w1 HQ.out).mono ?_
  rintro e w2 ⟨rfl, hq⟩
  have HQ2 := hid hq
  clear hq p1 b2
  go_wp2_with fail
  refine (num_any n _).mono ?_
  rintro e w3 ⟨rfl, rfl⟩
  go_wp2
  go_ret
  exact ⟨rfl, HQ2.out⟩
set_option maxRecDepth 100000 in
set_option maxHeartbeats 4000000 in
theorem changes_ten (on oa ob d0 d1 d2 d3 q0 q1 q2 q3 : Int) (s4 s5 s18 s19 : DSl) (k : DPkt) (tb rb : Nat) (n : Int) (w : World) (Q1 : World → World → Prop) (Q : World → Prop)
    (HC : Hid (∀ W, Below w.heap.size w W → Calls Tryz.prog 44 #[.pointer (some ⟨tb, 0, none⟩), .int .i64 oa] W fun e w' => e = .returned (.int .i64 n) ∧ (∀ b, w.heap.size ≤ b → b < W.heap.size → w'.heap[b]? = W.heap[b]?) ∧ Q1 W w'))
    (HR : Hid (∀ W w1, Q1 W w1 → Calls Tryz.prog 89 #[.pointer (some ⟨rb, 0, none⟩), .int .i64 oa] w1 fun e w' => e = .returned (.int .i64 n) ∧ Q w')) :
    Calls Tryz.prog 54 #[.agg #[.pointer (some ⟨tb, 0, none⟩), .pointer (some ⟨rb, 0, none⟩)], .agg #[.int .i64 10, .int .i64 on, .int .i64 oa, .int .i64 ob, .slice s4.a s4.n s4.c, .slice s5.a s5.n s5.c, .int .i64 k.src, .int .i64 k.dst, .int .i64 k.proto, .int .i64 k.port, .int .i64 d0, .int .i64 d1, .int .i64 d2, .int .i64 d3, .int .i64 q0, .int .i64 q1, .int .i64 q2, .int .i64 q3, .slice s18.a s18.n s18.c, .slice s19.a s19.n s19.c]] w fun e w' => e = .returned (.bool true) ∧ Q w' := by
  go_enter Tryz.func54, Tryz.ntmps54
  go_upto_block 0 with fail
  generalize hW : (w.alloc (Obj.cells #[.pointer (some ⟨tb, 0, none⟩), .pointer (some ⟨rb, 0, none⟩)] 119)).alloc (Obj.cells #[.int .i64 10, .int .i64 on, .int .i64 oa, .int .i64 ob, .slice s4.a s4.n s4.c, .slice s5.a s5.n s5.c, .int .i64 k.src, .int .i64 k.dst, .int .i64 k.proto, .int .i64 k.port, .int .i64 d0, .int .i64 d1, .int .i64 d2, .int .i64 d3, .int .i64 q0, .int .i64 q1, .int .i64 q2, .int .i64 q3, .slice s18.a s18.n s18.c, .slice s19.a s19.n s19.c] 88) = W
  have hsW : W.heap.size = w.heap.size + 2 := by rw [← hW]; simp
  have HBW := hid (show Below w.heap.size w W from by rw [← hW]; exact bel)
  have HBP := hid (show W.heap[w.heap.size]? = some (.cells #[.pointer (some ⟨tb, 0, none⟩), .pointer (some ⟨rb, 0, none⟩)] 119 (0, 0)) from by rw [← hW]; exact (Below.heap_alloc _ _ _ (by simp)).trans (new_heap _ _))
  have HBO := hid (show W.heap[w.heap.size + 1]? = some (.cells #[.int .i64 10, .int .i64 on, .int .i64 oa, .int .i64 ob, .slice s4.a s4.n s4.c, .slice s5.a s5.n s5.c, .int .i64 k.src, .int .i64 k.dst, .int .i64 k.proto, .int .i64 k.port, .int .i64 d0, .int .i64 d1, .int .i64 d2, .int .i64 d3, .int .i64 q0, .int .i64 q1, .int .i64 q2, .int .i64 q3, .slice s18.a s18.n s18.c, .slice s19.a s19.n s19.c] 88 (0, 0)) from by
    rw [← hW]
    have := new_heap (w.alloc (Obj.cells #[.pointer (some ⟨tb, 0, none⟩), .pointer (some ⟨rb, 0, none⟩)] 119)) (.cells #[.int .i64 10, .int .i64 on, .int .i64 oa, .int .i64 ob, .slice s4.a s4.n s4.c, .slice s5.a s5.n s5.c, .int .i64 k.src, .int .i64 k.dst, .int .i64 k.proto, .int .i64 k.port, .int .i64 d0, .int .i64 d1, .int .i64 d2, .int .i64 d3, .int .i64 q0, .int .i64 q1, .int .i64 q2, .int .i64 q3, .slice s18.a s18.n s18.c, .slice s19.a s19.n s19.c] 88)
    simp only [World.size_alloc] at this
    exact this)
  clear hW
  have a0 : W.cell? ⟨w.heap.size + 1, 0, none⟩ = some (.int .i64 10) := (blk_cell HBO.out 0).trans rfl
  have p0 : W.cell? ⟨w.heap.size, 0, none⟩ = some (.pointer (some ⟨tb, 0, none⟩)) := (blk_cell HBP.out 0).trans rfl
  have a2 : W.cell? ⟨w.heap.size + 1, 2, none⟩ = some (.int .i64 oa) := (blk_cell HBO.out 2).trans rfl
  go_wp2_with fail
  refine (HC.out W HBW.out).mono ?_
  rintro e w1 ⟨rfl, hk, hq⟩
  have HQ := hid hq
  have p1 : w1.cell? ⟨w.heap.size, 1, none⟩ = some (.pointer (some ⟨rb, 0, none⟩)) := (blk_cell ((hk w.heap.size (Nat.le_refl _) (by omega)).trans HBP.out) 1).trans rfl
  have b2 : w1.cell? ⟨w.heap.size + 1, 2, none⟩ = some (.int .i64 oa) := (blk_cell ((hk (w.heap.size + 1) (by omega) (by omega)).trans HBO.out) 2).trans rfl
  clear hk hq a0 p0 a2
  go_wp2_with fail
  refine (HR.out W w1 HQ.out).mono ?_
  rintro e w2 ⟨rfl, hq⟩
  have HQ2 := hid hq
  clear hq p1 b2
  go_wp2_with fail
  refine (num_any n _).mono ?_
  rintro e w3 ⟨rfl, rfl⟩
  go_wp2
  go_ret
  exact ⟨rfl, HQ2.out⟩
set_option maxRecDepth 100000 in
set_option maxHeartbeats 4000000 in
theorem changes_nine (p : DPol) (xa ya : Option Addr) (xc yc : Nat) (on oa ob d0 d1 d2 d3 : Int) (s4 s5 : DSl) (k : DPkt) (tb rb S0 : Nat) (n : Int) (w : World) (Q1 : World → World → Prop) (Q : World → Prop) (hS : S0 ≤ w.heap.size) (ho : rdRules S0 w xa p.outs) (hi : rdRules S0 w ya p.ins)
    (HC : Hid (∀ (W : World) (sa ta : Option Addr) (sc tc : Nat), Below w.heap.size w W → rdRules W.heap.size W sa p.outs → rdRules W.heap.size W ta p.ins → Calls Tryz.prog 28 #[.pointer (some ⟨tb, 0, none⟩), .agg #[.int .i64 p.space, .int .i64 p.need, .int .i64 p.ban, .int .i64 p.ways, .slice sa p.outs.length sc, .slice ta p.ins.length tc]] W fun e w' => e = .returned (.int .i64 n) ∧ (W.heap.size ≤ w'.heap.size ∧ ∀ b, w.heap.size ≤ b → b < W.heap.size → w'.heap[b]? = W.heap[b]?) ∧ Below S0 w w' ∧ Q1 W w'))
    (HR : Hid (∀ W w1 lo hi w2, Q1 W w1 → w.heap.size ≤ lo → hi ≤ W.heap.size → Only lo hi w1 w2 → Below S0 w w2 → Calls Tryz.prog 88 #[.pointer (some ⟨rb, 0, none⟩), .agg #[.int .i64 p.space, .int .i64 p.need, .int .i64 p.ban, .int .i64 p.ways, .slice xa p.outs.length xc, .slice ya p.ins.length yc]] w2 fun e w' => e = .returned (.int .i64 n) ∧ Q w')) :
    Calls Tryz.prog 54 #[.agg #[.pointer (some ⟨tb, 0, none⟩), .pointer (some ⟨rb, 0, none⟩)], .agg #[.int .i64 9, .int .i64 on, .int .i64 oa, .int .i64 ob, .slice s4.a s4.n s4.c, .slice s5.a s5.n s5.c, .int .i64 k.src, .int .i64 k.dst, .int .i64 k.proto, .int .i64 k.port, .int .i64 d0, .int .i64 d1, .int .i64 d2, .int .i64 d3, .int .i64 p.space, .int .i64 p.need, .int .i64 p.ban, .int .i64 p.ways, .slice xa p.outs.length xc, .slice ya p.ins.length yc]] w fun e w' => e = .returned (.bool true) ∧ Q w' := by
  have HO := hid ho
  have HI := hid hi
  clear ho hi
  go_enter Tryz.func54, Tryz.ntmps54
  go_upto_block 0 with fail
  generalize hW : (w.alloc (Obj.cells #[.pointer (some ⟨tb, 0, none⟩), .pointer (some ⟨rb, 0, none⟩)] 119)).alloc (Obj.cells #[.int .i64 9, .int .i64 on, .int .i64 oa, .int .i64 ob, .slice s4.a s4.n s4.c, .slice s5.a s5.n s5.c, .int .i64 k.src, .int .i64 k.dst, .int .i64 k.proto, .int .i64 k.port, .int .i64 d0, .int .i64 d1, .int .i64 d2, .int .i64 d3, .int .i64 p.space, .int .i64 p.need, .int .i64 p.ban, .int .i64 p.ways, .slice xa p.outs.length xc, .slice ya p.ins.length yc] 88) = W
  have hsW : W.heap.size = w.heap.size + 2 := by rw [← hW]; simp
  have HBW := hid (show Below w.heap.size w W from by rw [← hW]; exact bel)
  have HBP := hid (show W.heap[w.heap.size]? = some (.cells #[.pointer (some ⟨tb, 0, none⟩), .pointer (some ⟨rb, 0, none⟩)] 119 (0, 0)) from by rw [← hW]; exact (Below.heap_alloc _ _ _ (by simp)).trans (new_heap _ _))
  have HBO := hid (show W.heap[w.heap.size + 1]? = some (.cells #[.int .i64 9, .int .i64 on, .int .i64 oa, .int .i64 ob, .slice s4.a s4.n s4.c, .slice s5.a s5.n s5.c, .int .i64 k.src, .int .i64 k.dst, .int .i64 k.proto, .int .i64 k.port, .int .i64 d0, .int .i64 d1, .int .i64 d2, .int .i64 d3, .int .i64 p.space, .int .i64 p.need, .int .i64 p.ban, .int .i64 p.ways, .slice xa p.outs.length xc, .slice ya p.ins.length yc] 88 (0, 0)) from by
    rw [← hW]
    have := new_heap (w.alloc (Obj.cells #[.pointer (some ⟨tb, 0, none⟩), .pointer (some ⟨rb, 0, none⟩)] 119)) (.cells #[.int .i64 9, .int .i64 on, .int .i64 oa, .int .i64 ob, .slice s4.a s4.n s4.c, .slice s5.a s5.n s5.c, .int .i64 k.src, .int .i64 k.dst, .int .i64 k.proto, .int .i64 k.port, .int .i64 d0, .int .i64 d1, .int .i64 d2, .int .i64 d3, .int .i64 p.space, .int .i64 p.need, .int .i64 p.ban, .int .i64 p.ways, .slice xa p.outs.length xc, .slice ya p.ins.length yc] 88)
    simp only [World.size_alloc] at this
    exact this)
  clear hW
  have HWS := hid (show Below S0 w W from HBW.out.mono hS)
  have HOW := hid (rdRules.ext HWS.out (Nat.le_refl _) HO.out)
  have HIW := hid (rdRules.ext HWS.out (Nat.le_refl _) HI.out)
  have a0 : W.cell? ⟨w.heap.size + 1, 0, none⟩ = some (.int .i64 9) := (blk_cell HBO.out 0).trans rfl
  have a14 : W.cell? ⟨w.heap.size + 1, 14, none⟩ = some (.int .i64 p.space) := (blk_cell HBO.out 14).trans rfl
  have a15 : W.cell? ⟨w.heap.size + 1, 15, none⟩ = some (.int .i64 p.need) := (blk_cell HBO.out 15).trans rfl
  have a16 : W.cell? ⟨w.heap.size + 1, 16, none⟩ = some (.int .i64 p.ban) := (blk_cell HBO.out 16).trans rfl
  have a17 : W.cell? ⟨w.heap.size + 1, 17, none⟩ = some (.int .i64 p.ways) := (blk_cell HBO.out 17).trans rfl
  have a18 : W.cell? ⟨w.heap.size + 1, 18, none⟩ = some (.slice xa p.outs.length xc) := (blk_cell HBO.out 18).trans rfl
  have a19 : W.cell? ⟨w.heap.size + 1, 19, none⟩ = some (.slice ya p.ins.length yc) := (blk_cell HBO.out 19).trans rfl
  go_wp2_with fail
  refine (lentPolicy_any p xa ya xc yc W (rdRules.ext HWS.out (by omega) HO.out) (rdRules.ext HWS.out (by omega) HI.out)).mono ?_
  rintro e w1 ⟨m, sa, sn, sc, ta, tn, tc, rfl, hm1, hm2, hl1, hl2, hb1⟩
  obtain ⟨ss, cc, e1, hr1⟩ := hl1.rd HO.out (B := w1.heap.size) hm2
  obtain ⟨tt, dd, e2, hr2⟩ := hl2.rd HI.out (B := w1.heap.size) (Nat.le_refl _)
  cases e1
  cases e2
  have HL1 := hid hl1
  have HL2 := hid hl2
  have HR1 := hid hr1
  have HR2 := hid hr2
  have HB1 := hid hb1
  have hs1 := hb1.size
  have HBP1 := hid ((hb1.block w.heap.size (by omega)).trans HBP.out)
  have HBO1 := hid ((hb1.block (w.heap.size + 1) (by omega)).trans HBO.out)
  have p0 : w1.cell? ⟨w.heap.size, 0, none⟩ = some (.pointer (some ⟨tb, 0, none⟩)) := (blk_cell HBP1.out 0).trans rfl
  clear hl1 hl2 hr1 hr2 hb1 a0 a14 a15 a16 a17 a18 a19
  go_wp2_with fail
  generalize hX : w1.alloc (Obj.cells #[.int .i64 p.space, .int .i64 p.need, .int .i64 p.ban, .int .i64 p.ways, .slice sa p.outs.length sc, .slice ta p.ins.length tc] 59) = X
  have hsX : X.heap.size = w1.heap.size + 1 := by rw [← hX]; simp
  have HBX := hid (show Below w1.heap.size w1 X from by rw [← hX]; exact bel)
  have HBH := hid (show X.heap[w1.heap.size]? = some (.cells #[.int .i64 p.space, .int .i64 p.need, .int .i64 p.ban, .int .i64 p.ways, .slice sa p.outs.length sc, .slice ta p.ins.length tc] 59 (0, 0)) from by rw [← hX]; exact new_heap _ _)
  clear hX p0
  refine (HC.out X sa ta sc tc (Ext.trans HBW.out (Ext.trans HB1.out HBX.out)) (rdRules.ext HBX.out (by omega) HR1.out) (rdRules.ext HBX.out (by omega) HR2.out)).mono ?_
  rintro e w2 ⟨rfl, ⟨hs2, hk⟩, hb2, hq⟩
  have HQ := hid hq
  have HB2 := hid hb2
  have HK := hid hk
  have HBP2 := hid ((hk w.heap.size (Nat.le_refl _) (by omega)).trans ((HBX.out.block w.heap.size (by omega)).trans HBP1.out))
  have HBO2 := hid ((hk (w.heap.size + 1) (by omega) (by omega)).trans ((HBX.out.block (w.heap.size + 1) (by omega)).trans HBO1.out))
  have HBH2 := hid ((hk w1.heap.size (by omega) (by omega)).trans HBH.out)
  have HW2 := hid (show Below S0 W w2 from ⟨hb2.os.trans HWS.out.os.symm, hb2.tape.trans HWS.out.tape.symm, hb2.output.trans HWS.out.output.symm, by omega, fun b hb => (hb2.block b hb).trans (HWS.out.block b hb).symm⟩)
  clear hk hb2 hq
  have b14 : w2.cell? ⟨w.heap.size + 1, 14, none⟩ = some (.int .i64 p.space) := (blk_cell HBO2.out 14).trans rfl
  have b15 : w2.cell? ⟨w.heap.size + 1, 15, none⟩ = some (.int .i64 p.need) := (blk_cell HBO2.out 15).trans rfl
  have b16 : w2.cell? ⟨w.heap.size + 1, 16, none⟩ = some (.int .i64 p.ban) := (blk_cell HBO2.out 16).trans rfl
  have b17 : w2.cell? ⟨w.heap.size + 1, 17, none⟩ = some (.int .i64 p.ways) := (blk_cell HBO2.out 17).trans rfl
  have b18 : w2.cell? ⟨w.heap.size + 1, 18, none⟩ = some (.slice xa p.outs.length xc) := (blk_cell HBO2.out 18).trans rfl
  have b19 : w2.cell? ⟨w.heap.size + 1, 19, none⟩ = some (.slice ya p.ins.length yc) := (blk_cell HBO2.out 19).trans rfl
  have h0 : w2.cell? ⟨w1.heap.size, 0, none⟩ = some (.int .i64 p.space) := (blk_cell HBH2.out 0).trans rfl
  have h1 : w2.cell? ⟨w1.heap.size, 1, none⟩ = some (.int .i64 p.need) := (blk_cell HBH2.out 1).trans rfl
  have h2 : w2.cell? ⟨w1.heap.size, 2, none⟩ = some (.int .i64 p.ban) := (blk_cell HBH2.out 2).trans rfl
  have h3 : w2.cell? ⟨w1.heap.size, 3, none⟩ = some (.int .i64 p.ways) := (blk_cell HBH2.out 3).trans rfl
  have h4 : w2.cell? ⟨w1.heap.size, 4, none⟩ = some (.slice sa p.outs.length sc) := (blk_cell HBH2.out 4).trans rfl
  have h5 : w2.cell? ⟨w1.heap.size, 5, none⟩ = some (.slice ta p.ins.length tc) := (blk_cell HBH2.out 5).trans rfl
  go_wp2_with fail
  refine (backPolicy_any p xa ya xc yc sa ta p.outs.length sc p.ins.length tc S0 W.heap.size m w1.heap.size w2 (rdRules.ext HB2.out (Nat.le_refl _) HO.out) (rdRules.ext HB2.out (Nat.le_refl _) HI.out) (by omega) hm1 hm2 (by omega) (lnRules.fwd (B := S0) HOW.out HW2.out (HL1.out.heap fun j x1 x2 => (HK.out j (by omega) (by omega)).trans (HBX.out.block j (by omega)))) (lnRules.fwd (B := S0) HIW.out HW2.out (HL2.out.heap fun j x1 x2 => (HK.out j (by omega) (by omega)).trans (HBX.out.block j (by omega))))).mono ?_
  rintro e w3 ⟨rfl, hon⟩
  have HON := hid hon
  have HB3 := hid (show Below S0 w w3 from HB2.out.trans (hon.below (by omega) (by omega)))
  have p1 : w3.cell? ⟨w.heap.size, 1, none⟩ = some (.pointer (some ⟨rb, 0, none⟩)) := hon.cell ((blk_cell HBP2.out 1).trans rfl) (by omega)
  have c14 := hon.cell b14 (by omega)
  have c15 := hon.cell b15 (by omega)
  have c16 := hon.cell b16 (by omega)
  have c17 := hon.cell b17 (by omega)
  have c18 := hon.cell b18 (by omega)
  have c19 := hon.cell b19 (by omega)
  clear hon b14 b15 b16 b17 b18 b19 h0 h1 h2 h3 h4 h5
  go_wp2_with fail
  refine (HR.out X w2 W.heap.size w1.heap.size w3 HQ.out (by omega) (by omega) HON.out HB3.out).mono ?_
  rintro e w4 ⟨rfl, hq⟩
  have HQ4 := hid hq
  clear hq p1 c14 c15 c16 c17 c18 c19
  go_wp2_with fail
  refine (num_any n _).mono ?_
  rintro e w5 ⟨rfl, rfl⟩
  go_wp2
  go_ret
  exact ⟨rfl, HQ4.out⟩
end Go.Proofs.YtmkjlhplgcifiaaGreat
