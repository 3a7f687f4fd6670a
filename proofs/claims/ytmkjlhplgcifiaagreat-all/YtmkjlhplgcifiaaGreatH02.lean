/-
  Contracts of the small functions: bounds, selectors, ports, packets, pods (the program's and the document's).
-/
import Derived.Test.YtmkjlhplgcifiaaGreatH01
import Derived.Test.YtmkjlhplgcifiaaGreatRows
import Derived.Laws.StructEq
namespace Go.Proofs.YtmkjlhplgcifiaaGreat
open Go.ChangeShapes Go.WideShapes Go.ChangeAt Go.RowKit
set_option linter.unusedVariables false
set_option linter.unusedSimpArgs false
theorem within_any (n lo hi : Int) (w : World) :
    Calls Tryz.prog 63 #[.int .i64 n, .int .i64 lo, .int .i64 hi] w fun e w' => e = .returned (.bool (btw n lo hi)) ∧ w' = w := by
  by_cases h1 : lo ≤ n <;> by_cases h2 : n ≤ hi <;>
  · go_enter Tryz.func63, Tryz.ntmps63
    go_wp2
    go_ret
    simp [btw, h1, h2]
theorem between_any (n lo hi : Int) (w : World) :
    Calls Tryz.prog 113 #[.int .i64 n, .int .i64 lo, .int .i64 hi] w fun e w' => e = .returned (.bool (btw n lo hi)) ∧ w' = w := by
  by_cases h1 : lo ≤ n <;> by_cases h2 : n ≤ hi <;>
  · go_enter Tryz.func113, Tryz.ntmps113
    go_wp2
    go_ret
    simp [btw, h1, h2]
theorem address_any (n : Int) (w : World) :
    Calls Tryz.prog 62 #[.int .i64 n] w fun e w' => e = .returned (.bool (btw n 0 4294967295)) ∧ w' = w := by
  go_enter Tryz.func62, Tryz.ntmps62
  go_wp2_with (go_at_call 63; refine (within_any _ _ _ _).mono ?_; rintro e w' ⟨rfl, rfl⟩)
  go_ret
  exact ⟨rfl, rfl⟩
theorem space_any (n : Int) (w : World) :
    Calls Tryz.prog 116 #[.int .i64 n] w fun e w' => e = .returned (.bool (btw n 0 3)) ∧ w' = w := by
  go_enter Tryz.func116, Tryz.ntmps116
  go_wp2_with (go_at_call 63; refine (within_any _ _ _ _).mono ?_; rintro e w' ⟨rfl, rfl⟩)
  go_ret
  exact ⟨rfl, rfl⟩
theorem labels_any (n : Int) (w : World) :
    Calls Tryz.prog 117 #[.int .i64 n] w fun e w' => e = .returned (.bool (btw n 0 255)) ∧ w' = w := by
  go_enter Tryz.func117, Tryz.ntmps117
  go_wp2_with (go_at_call 63; refine (within_any _ _ _ _).mono ?_; rintro e w' ⟨rfl, rfl⟩)
  go_ret
  exact ⟨rfl, rfl⟩
theorem port_any (n : Int) (w : World) :
    Calls Tryz.prog 64 #[.int .i64 n] w fun e w' => e = .returned (.bool (btw n 0 65535)) ∧ w' = w := by
  go_enter Tryz.func64, Tryz.ntmps64
  go_wp2_with (go_at_call 63; refine (within_any _ _ _ _).mono ?_; rintro e w' ⟨rfl, rfl⟩)
  go_ret
  exact ⟨rfl, rfl⟩
theorem podRight_any (p : DPod) (w : World) :
    Calls Tryz.prog 90 #[.agg #[.int .i64 p.host, .int .i64 p.ip, .int .i64 p.space, .int .i64 p.labels]] w fun e w' => e = .returned (.bool (podOk p)) ∧ Below w.heap.size w w' := by
  go_enter Tryz.func90, Tryz.ntmps90
  cases hq1 : btw p.host 0 3
  · go_wp2_with (first
      | (go_at_call 63; refine (within_any _ _ _ _).mono ?_; rintro e w' ⟨rfl, rfl⟩)
      | (go_at_call 62; refine (address_any _ _).mono ?_; rintro e w' ⟨rfl, rfl⟩)
      | (go_at_call 116; refine (space_any _ _).mono ?_; rintro e w' ⟨rfl, rfl⟩)
      | (go_at_call 117; refine (labels_any _ _).mono ?_; rintro e w' ⟨rfl, rfl⟩))
    go_ret
    exact ⟨by simp [podOk, hq1], bel⟩
  cases hq2 : btw p.ip 0 4294967295
  · go_wp2_with (first
      | (go_at_call 63; refine (within_any _ _ _ _).mono ?_; rintro e w' ⟨rfl, rfl⟩)
      | (go_at_call 62; refine (address_any _ _).mono ?_; rintro e w' ⟨rfl, rfl⟩)
      | (go_at_call 116; refine (space_any _ _).mono ?_; rintro e w' ⟨rfl, rfl⟩)
      | (go_at_call 117; refine (labels_any _ _).mono ?_; rintro e w' ⟨rfl, rfl⟩))
    go_ret
    exact ⟨by simp [podOk, hq1, hq2], bel⟩
  cases hq3 : btw p.space 0 3
  · go_wp2_with (first
      | (go_at_call 63; refine (within_any _ _ _ _).mono ?_; rintro e w' ⟨rfl, rfl⟩)
      | (go_at_call 62; refine (address_any _ _).mono ?_; rintro e w' ⟨rfl, rfl⟩)
      | (go_at_call 116; refine (space_any _ _).mono ?_; rintro e w' ⟨rfl, rfl⟩)
      | (go_at_call 117; refine (labels_any _ _).mono ?_; rintro e w' ⟨rfl, rfl⟩))
    go_ret
    exact ⟨by simp [podOk, hq1, hq2, hq3], bel⟩
  cases hq4 : btw p.labels 0 255
  · go_wp2_with (first
      | (go_at_call 63; refine (within_any _ _ _ _).mono ?_; rintro e w' ⟨rfl, rfl⟩)
      | (go_at_call 62; refine (address_any _ _).mono ?_; rintro e w' ⟨rfl, rfl⟩)
      | (go_at_call 116; refine (space_any _ _).mono ?_; rintro e w' ⟨rfl, rfl⟩)
      | (go_at_call 117; refine (labels_any _ _).mono ?_; rintro e w' ⟨rfl, rfl⟩))
    go_ret
    exact ⟨by simp [podOk, hq1, hq2, hq3, hq4], bel⟩
  go_wp2_with (first
    | (go_at_call 63; refine (within_any _ _ _ _).mono ?_; rintro e w' ⟨rfl, rfl⟩)
    | (go_at_call 62; refine (address_any _ _).mono ?_; rintro e w' ⟨rfl, rfl⟩)
    | (go_at_call 116; refine (space_any _ _).mono ?_; rintro e w' ⟨rfl, rfl⟩)
    | (go_at_call 117; refine (labels_any _ _).mono ?_; rintro e w' ⟨rfl, rfl⟩))
  go_ret
  exact ⟨by simp [podOk, hq1, hq2, hq3, hq4], bel⟩
theorem refPod_any (p : DPod) (w : World) :
    Calls Tryz.prog 106 #[.agg #[.int .i64 p.host, .int .i64 p.ip, .int .i64 p.space, .int .i64 p.labels]] w fun e w' => e = .returned (.bool (podOk p)) ∧ Below w.heap.size w w' := by
  go_enter Tryz.func106, Tryz.ntmps106
  cases hq1 : btw p.host 0 3
  · go_wp2_with (go_at_call 113; refine (between_any _ _ _ _).mono ?_; rintro e w' ⟨rfl, rfl⟩)
    go_ret
    exact ⟨by simp [podOk, hq1], bel⟩
  cases hq2 : btw p.ip 0 4294967295
  · go_wp2_with (go_at_call 113; refine (between_any _ _ _ _).mono ?_; rintro e w' ⟨rfl, rfl⟩)
    go_ret
    exact ⟨by simp [podOk, hq1, hq2], bel⟩
  cases hq3 : btw p.space 0 3
  · go_wp2_with (go_at_call 113; refine (between_any _ _ _ _).mono ?_; rintro e w' ⟨rfl, rfl⟩)
    go_ret
    exact ⟨by simp [podOk, hq1, hq2, hq3], bel⟩
  cases hq4 : btw p.labels 0 255
  · go_wp2_with (go_at_call 113; refine (between_any _ _ _ _).mono ?_; rintro e w' ⟨rfl, rfl⟩)
    go_ret
    exact ⟨by simp [podOk, hq1, hq2, hq3, hq4], bel⟩
  go_wp2_with (go_at_call 113; refine (between_any _ _ _ _).mono ?_; rintro e w' ⟨rfl, rfl⟩)
  go_ret
  exact ⟨by simp [podOk, hq1, hq2, hq3, hq4], bel⟩
theorem selRight_any (need ban : Int) (w : World) :
    Calls Tryz.prog 119 #[.agg #[.int .i64 need, .int .i64 ban]] w fun e w' => e = .returned (.bool (selOk need ban)) ∧ Below w.heap.size w w' := by
  go_enter Tryz.func119, Tryz.ntmps119
  cases hq1 : btw need 0 255
  · go_wp2_with (go_at_call 117; refine (labels_any _ _).mono ?_; rintro e w' ⟨rfl, rfl⟩)
    go_ret
    exact ⟨by simp [selOk, hq1], bel⟩
  cases hq2 : btw ban 0 255
  · go_wp2_with (go_at_call 117; refine (labels_any _ _).mono ?_; rintro e w' ⟨rfl, rfl⟩)
    go_ret
    exact ⟨by simp [selOk, hq1, hq2], bel⟩
  go_wp2_with (go_at_call 117; refine (labels_any _ _).mono ?_; rintro e w' ⟨rfl, rfl⟩)
  go_ret
  exact ⟨by simp [selOk, hq1, hq2], bel⟩
theorem refSel_any (need ban : Int) (w : World) :
    Calls Tryz.prog 137 #[.agg #[.int .i64 need, .int .i64 ban]] w fun e w' => e = .returned (.bool (selOk need ban)) ∧ Below w.heap.size w w' := by
  go_enter Tryz.func137, Tryz.ntmps137
  cases hq1 : btw need 0 255
  · go_wp2_with (go_at_call 113; refine (between_any _ _ _ _).mono ?_; rintro e w' ⟨rfl, rfl⟩)
    go_ret
    exact ⟨by simp [selOk, hq1], bel⟩
  cases hq2 : btw ban 0 255
  · go_wp2_with (go_at_call 113; refine (between_any _ _ _ _).mono ?_; rintro e w' ⟨rfl, rfl⟩)
    go_ret
    exact ⟨by simp [selOk, hq1, hq2], bel⟩
  go_wp2_with (go_at_call 113; refine (between_any _ _ _ _).mono ?_; rintro e w' ⟨rfl, rfl⟩)
  go_ret
  exact ⟨by simp [selOk, hq1, hq2], bel⟩
theorem portRight_any (p : DPort) (w : World) :
    Calls Tryz.prog 153 #[.agg #[.int .i64 p.proto, .int .i64 p.lo, .int .i64 p.hi]] w fun e w' => e = .returned (.bool (prtOk p)) ∧ Below w.heap.size w w' := by
  go_enter Tryz.func153, Tryz.ntmps153
  cases hq1 : btw p.proto 0 2
  · go_wp2_with (first
      | (go_at_call 63; refine (within_any _ _ _ _).mono ?_; rintro e w' ⟨rfl, rfl⟩)
      | (go_at_call 64; refine (port_any _ _).mono ?_; rintro e w' ⟨rfl, rfl⟩))
    go_ret
    exact ⟨by simp [prtOk, hq1], bel⟩
  cases hq2 : btw p.lo 0 65535
  · go_wp2_with (first
      | (go_at_call 63; refine (within_any _ _ _ _).mono ?_; rintro e w' ⟨rfl, rfl⟩)
      | (go_at_call 64; refine (port_any _ _).mono ?_; rintro e w' ⟨rfl, rfl⟩))
    go_ret
    exact ⟨by simp [prtOk, hq1, hq2], bel⟩
  cases hq3 : btw p.hi 0 65535
  · go_wp2_with (first
      | (go_at_call 63; refine (within_any _ _ _ _).mono ?_; rintro e w' ⟨rfl, rfl⟩)
      | (go_at_call 64; refine (port_any _ _).mono ?_; rintro e w' ⟨rfl, rfl⟩))
    go_ret
    exact ⟨by simp [prtOk, hq1, hq2, hq3], bel⟩
  cases hq4 : decide (p.lo ≤ p.hi)
  · go_wp2_with (first
      | (go_at_call 63; refine (within_any _ _ _ _).mono ?_; rintro e w' ⟨rfl, rfl⟩)
      | (go_at_call 64; refine (port_any _ _).mono ?_; rintro e w' ⟨rfl, rfl⟩))
    go_ret
    exact ⟨by simp [prtOk, hq1, hq2, hq3, hq4], bel⟩
  go_wp2_with (first
    | (go_at_call 63; refine (within_any _ _ _ _).mono ?_; rintro e w' ⟨rfl, rfl⟩)
    | (go_at_call 64; refine (port_any _ _).mono ?_; rintro e w' ⟨rfl, rfl⟩))
  go_ret
  exact ⟨by simp [prtOk, hq1, hq2, hq3, hq4], bel⟩
theorem refPort_any (p : DPort) (w : World) :
    Calls Tryz.prog 143 #[.agg #[.int .i64 p.proto, .int .i64 p.lo, .int .i64 p.hi]] w fun e w' => e = .returned (.bool (prtOk p)) ∧ Below w.heap.size w w' := by
  go_enter Tryz.func143, Tryz.ntmps143
  cases hq1 : btw p.proto 0 2
  · go_wp2_with (go_at_call 113; refine (between_any _ _ _ _).mono ?_; rintro e w' ⟨rfl, rfl⟩)
    go_ret
    exact ⟨by simp [prtOk, hq1], bel⟩
  cases hq2 : btw p.lo 0 65535
  · go_wp2_with (go_at_call 113; refine (between_any _ _ _ _).mono ?_; rintro e w' ⟨rfl, rfl⟩)
    go_ret
    exact ⟨by simp [prtOk, hq1, hq2], bel⟩
  cases hq3 : btw p.hi 0 65535
  · go_wp2_with (go_at_call 113; refine (between_any _ _ _ _).mono ?_; rintro e w' ⟨rfl, rfl⟩)
    go_ret
    exact ⟨by simp [prtOk, hq1, hq2, hq3], bel⟩
  cases hq4 : decide (p.lo ≤ p.hi)
  · go_wp2_with (go_at_call 113; refine (between_any _ _ _ _).mono ?_; rintro e w' ⟨rfl, rfl⟩)
    go_ret
    exact ⟨by simp [prtOk, hq1, hq2, hq3, hq4], bel⟩
  go_wp2_with (go_at_call 113; refine (between_any _ _ _ _).mono ?_; rintro e w' ⟨rfl, rfl⟩)
  go_ret
  exact ⟨by simp [prtOk, hq1, hq2, hq3, hq4], bel⟩
theorem pktRight_any (p : DPkt) (w : World) :
    Calls Tryz.prog 36 #[.agg #[.int .i64 p.src, .int .i64 p.dst, .int .i64 p.proto, .int .i64 p.port]] w fun e w' => e = .returned (.bool (pktOk p)) ∧ Below w.heap.size w w' := by
  go_enter Tryz.func36, Tryz.ntmps36
  cases hq1 : btw p.src 0 4294967295
  · go_wp2_with (first
      | (go_at_call 63; refine (within_any _ _ _ _).mono ?_; rintro e w' ⟨rfl, rfl⟩)
      | (go_at_call 62; refine (address_any _ _).mono ?_; rintro e w' ⟨rfl, rfl⟩)
      | (go_at_call 64; refine (port_any _ _).mono ?_; rintro e w' ⟨rfl, rfl⟩))
    go_ret
    exact ⟨by simp [pktOk, hq1], bel⟩
  cases hq2 : btw p.dst 0 4294967295
  · go_wp2_with (first
      | (go_at_call 63; refine (within_any _ _ _ _).mono ?_; rintro e w' ⟨rfl, rfl⟩)
      | (go_at_call 62; refine (address_any _ _).mono ?_; rintro e w' ⟨rfl, rfl⟩)
      | (go_at_call 64; refine (port_any _ _).mono ?_; rintro e w' ⟨rfl, rfl⟩))
    go_ret
    exact ⟨by simp [pktOk, hq1, hq2], bel⟩
  cases hq3 : btw p.proto 1 2
  · go_wp2_with (first
      | (go_at_call 63; refine (within_any _ _ _ _).mono ?_; rintro e w' ⟨rfl, rfl⟩)
      | (go_at_call 62; refine (address_any _ _).mono ?_; rintro e w' ⟨rfl, rfl⟩)
      | (go_at_call 64; refine (port_any _ _).mono ?_; rintro e w' ⟨rfl, rfl⟩))
    go_ret
    exact ⟨by simp [pktOk, hq1, hq2, hq3], bel⟩
  cases hq4 : btw p.port 0 65535
  · go_wp2_with (first
      | (go_at_call 63; refine (within_any _ _ _ _).mono ?_; rintro e w' ⟨rfl, rfl⟩)
      | (go_at_call 62; refine (address_any _ _).mono ?_; rintro e w' ⟨rfl, rfl⟩)
      | (go_at_call 64; refine (port_any _ _).mono ?_; rintro e w' ⟨rfl, rfl⟩))
    go_ret
    exact ⟨by simp [pktOk, hq1, hq2, hq3, hq4], bel⟩
  go_wp2_with (first
    | (go_at_call 63; refine (within_any _ _ _ _).mono ?_; rintro e w' ⟨rfl, rfl⟩)
    | (go_at_call 62; refine (address_any _ _).mono ?_; rintro e w' ⟨rfl, rfl⟩)
    | (go_at_call 64; refine (port_any _ _).mono ?_; rintro e w' ⟨rfl, rfl⟩))
  go_ret
  exact ⟨by simp [pktOk, hq1, hq2, hq3, hq4], bel⟩
theorem refPkt_any (p : DPkt) (w : World) :
    Calls Tryz.prog 83 #[.agg #[.int .i64 p.src, .int .i64 p.dst, .int .i64 p.proto, .int .i64 p.port]] w fun e w' => e = .returned (.bool (pktOk p)) ∧ Below w.heap.size w w' := by
  go_enter Tryz.func83, Tryz.ntmps83
  cases hq1 : btw p.src 0 4294967295
  · go_wp2_with (go_at_call 113; refine (between_any _ _ _ _).mono ?_; rintro e w' ⟨rfl, rfl⟩)
    go_ret
    exact ⟨by simp [pktOk, hq1], bel⟩
  cases hq2 : btw p.dst 0 4294967295
  · go_wp2_with (go_at_call 113; refine (between_any _ _ _ _).mono ?_; rintro e w' ⟨rfl, rfl⟩)
    go_ret
    exact ⟨by simp [pktOk, hq1, hq2], bel⟩
  cases hq3 : btw p.proto 1 2
  · go_wp2_with (go_at_call 113; refine (between_any _ _ _ _).mono ?_; rintro e w' ⟨rfl, rfl⟩)
    go_ret
    exact ⟨by simp [pktOk, hq1, hq2, hq3], bel⟩
  cases hq4 : btw p.port 0 65535
  · go_wp2_with (go_at_call 113; refine (between_any _ _ _ _).mono ?_; rintro e w' ⟨rfl, rfl⟩)
    go_ret
    exact ⟨by simp [pktOk, hq1, hq2, hq3, hq4], bel⟩
  go_wp2_with (go_at_call 113; refine (between_any _ _ _ _).mono ?_; rintro e w' ⟨rfl, rfl⟩)
  go_ret
  exact ⟨by simp [pktOk, hq1, hq2, hq3, hq4], bel⟩
theorem eqg_blk : Tryz.prog.eqGuardType Tryz.prog.depth 47 = false := by kernel_rfl
theorem std_blk : Tryz.prog.stoodInHeld 47 = false := by kernel_rfl
theorem eqg_pod : Tryz.prog.eqGuardType Tryz.prog.depth 54 = false := by kernel_rfl
theorem std_pod : Tryz.prog.stoodInHeld 54 = false := by kernel_rfl
theorem eqg_sel : Tryz.prog.eqGuardType Tryz.prog.depth 56 = false := by kernel_rfl
theorem std_sel : Tryz.prog.stoodInHeld 56 = false := by kernel_rfl
theorem eqg_prt : Tryz.prog.eqGuardType Tryz.prog.depth 109 = false := by kernel_rfl
theorem std_prt : Tryz.prog.stoodInHeld 109 = false := by kernel_rfl
attribute [local go_sem] eqg_blk std_blk eqg_pod std_pod eqg_sel std_sel eqg_prt std_prt
theorem eql_blk (a b c d : Int) (w : World) : (binOp .eql 47 (.agg #[.int .i64 a, .int .i64 b]) (.agg #[.int .i64 c, .int .i64 d])).run Tryz.prog w = .ok (.bool (decide (a = c) && decide (b = d))) w := by
  by_cases h1 : a = c <;> by_cases h2 : b = d <;> simp [go_sem, h1, h2]
theorem eql_sel (a b c d : Int) (w : World) : (binOp .eql 56 (.agg #[.int .i64 a, .int .i64 b]) (.agg #[.int .i64 c, .int .i64 d])).run Tryz.prog w = .ok (.bool (decide (a = c) && decide (b = d))) w := by
  by_cases h1 : a = c <;> by_cases h2 : b = d <;> simp [go_sem, h1, h2]
theorem neq_sel (a b c d : Int) (w : World) : (binOp .neq 56 (.agg #[.int .i64 a, .int .i64 b]) (.agg #[.int .i64 c, .int .i64 d])).run Tryz.prog w = .ok (.bool (!(decide (a = c) && decide (b = d)))) w := by
  by_cases h1 : a = c <;> by_cases h2 : b = d <;> simp [go_sem, h1, h2]
theorem eql_prt (a b c d e f : Int) (w : World) : (binOp .eql 109 (.agg #[.int .i64 a, .int .i64 b, .int .i64 c]) (.agg #[.int .i64 d, .int .i64 e, .int .i64 f])).run Tryz.prog w = .ok (.bool (decide (a = d) && decide (b = e) && decide (c = f))) w := by
  by_cases h1 : a = d <;> by_cases h2 : b = e <;> by_cases h3 : c = f <;> simp [go_sem, h1, h2, h3]
theorem eql_pod (a b c d e f g h : Int) (w : World) : (binOp .eql 54 (.agg #[.int .i64 a, .int .i64 b, .int .i64 c, .int .i64 d]) (.agg #[.int .i64 e, .int .i64 f, .int .i64 g, .int .i64 h])).run Tryz.prog w = .ok (.bool (decide (a = e) && decide (b = f) && decide (c = g) && decide (d = h))) w := by
  by_cases h1 : a = e <;> by_cases h2 : b = f <;> by_cases h3 : c = g <;> by_cases h4 : d = h <;> simp [go_sem, h1, h2, h3, h4]
attribute [local go_sem ↓] eql_blk eql_sel neq_sel eql_prt eql_pod
end Go.Proofs.YtmkjlhplgcifiaaGreat
namespace Go.Proofs.YtmkjlhplgcifiaaGreat
open Go.ChangeShapes Go.WideShapes Go.ChangeAt Go.RowKit
set_option linter.unusedVariables false
set_option linter.unusedSimpArgs false
attribute [local simp] World.cell?_grow
attribute [local go_sem] World.cell?_grow eqg_blk std_blk eqg_pod std_pod eqg_sel std_sel eqg_prt std_prt
attribute [local go_sem ↓] eql_blk eql_sel neq_sel eql_prt eql_pod
theorem btw_true {n lo hi : Int} : btw n lo hi = true ↔ lo ≤ n ∧ n ≤ hi := by simp [btw]
theorem pw_pos (bits : Int) : 0 < pw bits := by unfold pw; exact Int.pow_pos (by omega)
theorem mul_div_le (ip p : Int) (hp : 0 < p) (h : 0 ≤ ip) : 0 ≤ ip / p * p ∧ ip / p * p ≤ ip := by
  have h1 := Int.ediv_nonneg h (Int.le_of_lt hp)
  have h2 := Int.ediv_mul_le ip (b := p) (by omega)
  exact ⟨Int.mul_nonneg h1 (Int.le_of_lt hp), h2⟩
theorem blk_eq (base p : Int) : decide (base / p * p = base) = decide (base % p = 0) := by
  have := Int.ediv_mul_add_emod base p
  by_cases h : base % p = 0
  · simp [h]; omega
  · simp [h]; omega
theorem has_eq (ip base p : Int) (h : base % p = 0) : decide (ip / p = base / p) = decide (ip / p * p = base) := by
  have h1 := Int.ediv_mul_add_emod base p
  have h2 : base / p * p = base := by omega
  by_cases hp : p = 0
  · subst hp; simp at *; omega
  by_cases e : ip / p = base / p
  · simp [e, h2]
  · have : ¬ ip / p * p = base := by
      intro e2
      rw [← h2] at e2
      exact e (Int.eq_of_mul_eq_mul_right hp e2)
    simp [e, this]
theorem blkOk_true {x : DBlk} : blkOk x = true ↔ 0 ≤ x.bits ∧ x.bits ≤ 32 ∧ 0 ≤ x.base ∧ x.base ≤ 4294967295 ∧ x.base % pw x.bits = 0 := by
  simp [blkOk, btw, and_assoc]
theorem pw_succ (k : Int) (h : 0 ≤ k) (h1 : k < 32) : pw k = 2 * pw (k + 1) := by
  unfold pw
  have : (32 - k).toNat = (32 - (k + 1)).toNat + 1 := by omega
  rw [this, Int.pow_succ, Int.mul_comm]
theorem pw_le (k : Int) (h : 0 ≤ k) : 1 ≤ pw k ∧ pw k ≤ 4294967296 := by
  refine ⟨by have := pw_pos k; omega, ?_⟩
  unfold pw
  have : (32 - k).toNat ≤ 32 := by omega
  have h2 : (2 : Nat) ^ (32 - k).toNat ≤ 2 ^ 32 := Nat.pow_le_pow_right (by omega) this
  have : ((2 : Int) ^ (32 - k).toNat) = ((2 ^ (32 - k).toNat : Nat) : Int) := by simp
  rw [this]
  omega
theorem fac_le (m p q : Int) (hp : 1 ≤ p) (hq : 1 ≤ q) (h : m * p = q) : 1 ≤ m ∧ m ≤ q := by
  have hm : 0 < m := by
    rcases Int.lt_or_le 0 m with h' | h'
    · exact h'
    · have := Int.mul_nonneg (a := -m) (b := p) (by omega) (by omega)
      rw [Int.neg_mul] at this
      omega
  refine ⟨by omega, ?_⟩
  have := Int.mul_le_mul_of_nonneg_left hp (Int.le_of_lt hm)
  omega
theorem fac_two (m p q : Int) (hp : 0 < p) (h : m * (2 * p) = q) (hq : q ≤ 4294967296) : 2 * m ≤ 4294967296 := by
  rcases Int.lt_or_le 0 m with h' | h'
  · have h1 : m * (2 * p) = (2 * m) * p := by rw [Int.mul_comm 2 m, Int.mul_assoc]
    have := Int.mul_le_mul_of_nonneg_left (show 1 ≤ p by omega) (show 0 ≤ 2 * m by omega)
    omega
  · omega
theorem around_any (ip bits : Int) (w : World) (h1 : 0 ≤ bits) (h2 : bits ≤ 32) (h3 : 0 ≤ ip) (h4 : ip ≤ 4294967295) :
    Calls Tryz.prog 136 #[.int .i64 ip, .int .i64 bits] w fun e w' => e = .returned (.agg #[.int .i64 (ip / pw bits * pw bits), .int .i64 bits]) ∧ Below w.heap.size w w' := by
  have hw : wrap64 (ip / 2 ^ (32 - bits).toNat * 2 ^ (32 - bits).toNat) = ip / pw bits * pw bits := by
    have := mul_div_le ip (pw bits) (pw_pos _) h3
    show wrap64 (ip / pw bits * pw bits) = _
    exact IntWalk.wrap64_in _ (by omega)
  have H : Hid (wrap64 (ip / 2 ^ (32 - bits).toNat * 2 ^ (32 - bits).toNat) = ip / pw bits * pw bits) := hw
  clear hw
  go_enter Tryz.func136, Tryz.ntmps136
  go_wp2
  rw [H.out]
  exact bodyPost_ret (v := .agg #[.int .i64 (ip / pw bits * pw bits), .int .i64 bits]) (by simp [results, Tryz.results136, go_sem]) rfl ⟨rfl, bel⟩
theorem blkRight_any (x : DBlk) (w : World) :
    Calls Tryz.prog 219 #[.agg #[.int .i64 x.base, .int .i64 x.bits]] w fun e w' => e = .returned (.bool (blkOk x)) ∧ Below w.heap.size w w' := by
  cases hq1 : btw x.bits 0 32
  · go_enter Tryz.func219, Tryz.ntmps219
    go_wp2
    refine wp_region_grow (by kernel_rfl) (by kernel_rfl) ?_
    repeat (go_big_quiet_step (first
      | (go_at_call 63; exact Calls.grow_bool_same hq1 (within_any _ _ _ _))))
    refine wpQuiet_nil ?_
    intro w1 hb1
    obtain ⟨hc1, hf1⟩ := bcell hb1
    have hz1 := hb_lt hb1
    go_wp2
    go_ret
    exact ⟨by simp [blkOk, hq1], bel⟩
  cases hq2 : btw x.base 0 4294967295
  · go_enter Tryz.func219, Tryz.ntmps219
    go_wp2
    refine wp_region_grow (by kernel_rfl) (by kernel_rfl) ?_
    repeat (go_big_quiet_step (first
      | (go_at_call 63; exact Calls.grow_bool_same hq1 (within_any _ _ _ _))
      | (go_at_call 62; exact Calls.grow_bool_same hq2 (address_any _ _))))
    refine wpQuiet_nil ?_
    intro w1 hb1
    obtain ⟨hc1, hf1⟩ := bcell hb1
    have hz1 := hb_lt hb1
    go_wp2
    go_ret
    exact ⟨by simp [blkOk, hq1, hq2], bel⟩
  have hq3 := btw_true.1 hq1
  have hq4 := btw_true.1 hq2
  go_enter Tryz.func219, Tryz.ntmps219
  go_wp2
  refine wp_region_grow (by kernel_rfl) (by kernel_rfl) ?_
  repeat (go_big_quiet_step (first
    | (go_at_call 63; exact Calls.grow_bool_same hq1 (within_any _ _ _ _))
    | (go_at_call 62; exact Calls.grow_bool_same hq2 (address_any _ _))
    | (go_at_call 136; exact Calls.grow_of (around_any _ _ _ hq3.1 hq3.2 hq4.1 hq4.2))))
  refine wpQuiet_nil ?_
  intro w1 hb1
  obtain ⟨hc1, hf1⟩ := bcell hb1
  have hz1 := hb_lt hb1
  go_wp2
  go_ret
  exact ⟨ret_bool (by rw [blkOk, hq1, hq2, blk_eq]; rfl), bel⟩
theorem blkHas_any (x : DBlk) (ip : Int) (w : World) (hx : blkOk x = true) (h0 : 0 ≤ ip) (h1 : ip ≤ 4294967295) :
    Calls Tryz.prog 104 #[.agg #[.int .i64 x.base, .int .i64 x.bits], .int .i64 ip] w fun e w' => e = .returned (.bool (blkHas ip x)) ∧ Below w.heap.size w w' := by
  obtain ⟨b0, b1, b2, b3, b4⟩ := blkOk_true.1 hx
  have B4 := hid b4
  clear b4 hx
  go_enter Tryz.func104, Tryz.ntmps104
  go_wp2
  refine wp_region_grow (by kernel_rfl) (by kernel_rfl) ?_
  repeat (go_big_quiet_step (first
    | (go_at_call 136; exact Calls.grow_of (around_any _ _ _ b0 b1 h0 h1))))
  refine wpQuiet_nil ?_
  intro w1 hb1
  obtain ⟨hc1, hf1⟩ := bcell hb1
  have hz1 := hb_lt hb1
  go_wp2
  go_ret
  exact ⟨ret_bool (by rw [blkHas, has_eq _ _ _ B4.out]), bel⟩
theorem size_any (bits : Int) (w : World) (h0 : 0 ≤ bits) (h1 : bits ≤ 32) :
    Calls Tryz.prog 168 #[.int .i64 bits] w fun e w' => e = .returned (.int .i64 (pw bits)) ∧ w' = w := by
  go_enter Tryz.func168, Tryz.ntmps168
  go_wp2
  go_loop [3, 4] (fun n i => ∃ k m : Int, bits ≤ k ∧ k ≤ 32 ∧ i = .int .i64 k ∧ n = .int .i64 m ∧ m * pw k = pw bits) (fun _ i => (32 - intOf i).toNat)
  case atStart => exact ⟨bits, 1, by omega, by omega, rfl, rfl, by omega⟩
  case round =>
    obtain ⟨k, m, hk1, hk2, rfl, rfl, hm⟩ := hrel
    have hpk := pw_le k (by omega)
    have hpb := pw_le bits (by omega)
    have hmm := fac_le m (pw k) (pw bits) hpk.1 hpb.1 hm
    have HM := hid hm
    clear hm
    by_cases hlt : k < 32
    · have hps := pw_succ k (by omega) (by omega)
      have hm2 := fac_two m (pw (k + 1)) (pw bits) (pw_pos _) (by rw [← HM.out, hps]) hpb.2
      have HP := hid hps
      clear hps
      go_wp2
      go_round
      case rel => exact ⟨k + 1, 2 * m, by omega, by omega, by go_num, by go_num, by rw [← HM.out, HP.out, Int.mul_comm 2 m, Int.mul_assoc]⟩
      case measure => simp [intOf]; omega
    · go_wp2
      go_ret
      have e : k = 32 := by omega
      subst e
      have e2 : pw 32 = 1 := rfl
      have := HM.out
      rw [e2, Int.mul_one] at this
      exact ⟨(by rw [this] : Ending.returned (.int .i64 m) = _), rfl⟩
theorem refBlk_any (x : DBlk) (w : World) :
    Calls Tryz.prog 142 #[.agg #[.int .i64 x.base, .int .i64 x.bits]] w fun e w' => e = .returned (.bool (blkOk x)) ∧ Below w.heap.size w w' := by
  by_cases h0 : 0 ≤ x.bits
  · by_cases h1 : x.bits ≤ 32
    · by_cases h2 : 0 ≤ x.base
      · by_cases h3 : x.base ≤ 4294967295
        · have hp := pw_pos x.bits
          have hp2 := pw_le x.bits h0
          have HF := hid (show blkOk x = decide (x.base % pw x.bits = 0) by simp [blkOk, btw, h0, h1, h2, h3])
          go_enter Tryz.func142, Tryz.ntmps142
          go_wp2_with (go_at_call 168; refine (size_any _ _ h0 h1).mono ?_; rintro e w' ⟨rfl, rfl⟩)
          go_ret
          exact ⟨ret_bool (by rw [HF.out]; exact ibeq _ _), bel⟩
        · have HF := hid (show blkOk x = false by simp [blkOk, btw, h3])
          go_enter Tryz.func142, Tryz.ntmps142
          go_wp2
          go_ret
          exact ⟨ret_bool (by rw [HF.out]), bel⟩
      · have HF := hid (show blkOk x = false by simp [blkOk, btw, h2])
        go_enter Tryz.func142, Tryz.ntmps142
        go_wp2
        go_ret
        exact ⟨ret_bool (by rw [HF.out]), bel⟩
    · have HF := hid (show blkOk x = false by simp [blkOk, btw, h1])
      go_enter Tryz.func142, Tryz.ntmps142
      go_wp2
      go_ret
      exact ⟨ret_bool (by rw [HF.out]), bel⟩
  · have HF := hid (show blkOk x = false by simp [blkOk, btw, h0])
    go_enter Tryz.func142, Tryz.ntmps142
    go_wp2
    go_ret
    exact ⟨ret_bool (by rw [HF.out]), bel⟩
theorem refHas_any (x : DBlk) (ip : Int) (w : World) (hx : blkOk x = true) (h0 : 0 ≤ ip) (h1 : ip ≤ 4294967295) :
    Calls Tryz.prog 144 #[.agg #[.int .i64 x.base, .int .i64 x.bits], .int .i64 ip] w fun e w' => e = .returned (.bool (blkHas ip x)) ∧ Below w.heap.size w w' := by
  obtain ⟨b0, b1, b2, b3, b4⟩ := blkOk_true.1 hx
  clear b4 hx
  have hp := pw_pos x.bits
  have hp2 := pw_le x.bits b0
  go_enter Tryz.func144, Tryz.ntmps144
  go_wp2_with (go_at_call 168; refine (size_any _ _ b0 b1).mono ?_; rintro e w' ⟨rfl, rfl⟩)
  refine wp_region_grow (by kernel_rfl) (by kernel_rfl) ?_
  repeat (go_big_quiet_step (fail))
  refine wpQuiet_nil ?_
  intro w1 hb1
  obtain ⟨hc1, hf1⟩ := bcell hb1
  have hz1 := hb_lt hb1
  go_wp2
  go_ret
  exact ⟨ret_bool (ibeq _ _), bel⟩
end Go.Proofs.YtmkjlhplgcifiaaGreat
