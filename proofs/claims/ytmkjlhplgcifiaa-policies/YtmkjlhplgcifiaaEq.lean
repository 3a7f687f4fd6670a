/-
  == of blocks, pods, selectors and ports, as the program's operation runs.
-/
import Derived.Test.YtmkjlhplgcifiaaRows
import Derived.Laws.StructEq
import Derived.Test.YtmkjlhplgcifiaaBase
namespace Go.Proofs.Ytmkjlhplgcifiaa
open Go.ChangeShapes Go.WideShapes Go.ChangeAt Go.RowKit
set_option linter.unusedVariables false
set_option linter.unusedSimpArgs false

theorem eqg_blk : Try.prog.eqGuardType Try.prog.depth 44 = false := by kernel_rfl
theorem std_blk : Try.prog.stoodInHeld 44 = false := by kernel_rfl
theorem eqg_pod : Try.prog.eqGuardType Try.prog.depth 32 = false := by kernel_rfl
theorem std_pod : Try.prog.stoodInHeld 32 = false := by kernel_rfl
theorem eqg_sel : Try.prog.eqGuardType Try.prog.depth 34 = false := by kernel_rfl
theorem std_sel : Try.prog.stoodInHeld 34 = false := by kernel_rfl
theorem eqg_prt : Try.prog.eqGuardType Try.prog.depth 50 = false := by kernel_rfl
theorem std_prt : Try.prog.stoodInHeld 50 = false := by kernel_rfl

attribute [local go_sem] eqg_blk std_blk eqg_pod std_pod eqg_sel std_sel eqg_prt std_prt

theorem eql_blk (a b c d : Int) (w : World) : (binOp .eql 44 (.agg #[.int .i64 a, .int .i64 b]) (.agg #[.int .i64 c, .int .i64 d])).run Try.prog w = .ok (.bool (decide (a = c) && decide (b = d))) w := by
  by_cases h1 : a = c <;> by_cases h2 : b = d <;> simp [go_sem, h1, h2]
theorem eql_sel (a b c d : Int) (w : World) : (binOp .eql 34 (.agg #[.int .i64 a, .int .i64 b]) (.agg #[.int .i64 c, .int .i64 d])).run Try.prog w = .ok (.bool (decide (a = c) && decide (b = d))) w := by
  by_cases h1 : a = c <;> by_cases h2 : b = d <;> simp [go_sem, h1, h2]
theorem neq_sel (a b c d : Int) (w : World) : (binOp .neq 34 (.agg #[.int .i64 a, .int .i64 b]) (.agg #[.int .i64 c, .int .i64 d])).run Try.prog w = .ok (.bool (!(decide (a = c) && decide (b = d)))) w := by
  by_cases h1 : a = c <;> by_cases h2 : b = d <;> simp [go_sem, h1, h2]
theorem eql_prt (a b c d e f : Int) (w : World) : (binOp .eql 50 (.agg #[.int .i64 a, .int .i64 b, .int .i64 c]) (.agg #[.int .i64 d, .int .i64 e, .int .i64 f])).run Try.prog w = .ok (.bool (decide (a = d) && decide (b = e) && decide (c = f))) w := by
  by_cases h1 : a = d <;> by_cases h2 : b = e <;> by_cases h3 : c = f <;> simp [go_sem, h1, h2, h3]
theorem eql_pod (a b c d e f g h : Int) (w : World) : (binOp .eql 32 (.agg #[.int .i64 a, .int .i64 b, .int .i64 c, .int .i64 d]) (.agg #[.int .i64 e, .int .i64 f, .int .i64 g, .int .i64 h])).run Try.prog w = .ok (.bool (decide (a = e) && decide (b = f) && decide (c = g) && decide (d = h))) w := by
  by_cases h1 : a = e <;> by_cases h2 : b = f <;> by_cases h3 : c = g <;> by_cases h4 : d = h <;> simp [go_sem, h1, h2, h3, h4]
attribute [local go_sem ↓] eql_blk eql_sel neq_sel eql_prt eql_pod
end Go.Proofs.Ytmkjlhplgcifiaa
