/-
  The law Compiled walked, whatever the script.
-/
import Derived.Test.YtmkjlhplgcifiaaGreatN44
namespace Go.Proofs.YtmkjlhplgcifiaaGreat
open Go.ChangeShapes Go.WideShapes Go.ChangeAt Go.RowKit
attribute [local simp] World.cell?_grow
attribute [local go_sem] World.cell?_grow
attribute [local simp] World.cell?_alloc_there
attribute [local go_sem] World.cell?_alloc_there
attribute [local go_sem] eqg_blk std_blk eqg_pod std_pod eqg_sel std_sel eqg_prt std_prt
attribute [local go_sem ↓] eql_blk eql_sel neq_sel eql_prt eql_pod
attribute [local go_sem ↓] met_in1 met_in2 met_re1 met_re2
attribute [local go_sem ↓] met_has1 met_has2
attribute [local go_sem ↓] met_bl1 met_bl2
attribute [local go_sem] eqg_row std_row
attribute [local go_sem ↓] neq_row
set_option linter.unusedVariables false
set_option linter.unusedSimpArgs false
theorem compiledLaw_any (sa : Option Addr) (l : List DOp) (sc : Nat) (w : World) (hr : RdSl w.heap.size w 20 224 eOp sa l) (ho : ∀ x ∈ l, okOp w.heap.size w x ∧ iOp x) :
    Calls Tryz.prog 3 #[.slice sa l.length sc] w fun e w' => e = .returned (.bool true) ∧ Below w.heap.size w w' := by
  have HP := hid (plays_any 4 l sa sc w hr ho (by decide) fun x wb B vl vd Ps Ds w h h1 h2 h3 h4 h5 => step_any x h h1 h2 (Int.le_trans h3 (by decide)) h4 h5)
  clear hr ho
  go_enter Tryz.func3, Tryz.ntmps3
  go_wp2_with fail
  refine HP.out.mono ?_
  rintro e w1 ⟨rfl, hb1⟩
  have HB1 := hid hb1
  clear hb1
  go_wp2
  go_ret
  exact ⟨rfl, HB1.out⟩
end Go.Proofs.YtmkjlhplgcifiaaGreat
