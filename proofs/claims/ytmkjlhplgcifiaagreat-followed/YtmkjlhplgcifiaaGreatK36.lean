/-
  A peer and a rule that came in as values, opened.
-/
import Derived.Test.YtmkjlhplgcifiaaGreatK33
import Derived.Carry
namespace Go.Proofs.YtmkjlhplgcifiaaGreat
open Go.ChangeShapes Go.WideShapes Go.ChangeAt Go.RowKit
attribute [local simp] World.cell?_grow
attribute [local go_sem] World.cell?_grow
attribute [local simp] World.cell?_alloc_there
attribute [local go_sem] World.cell?_alloc_there
attribute [local go_sem] eqg_blk std_blk eqg_pod std_pod eqg_sel std_sel eqg_prt std_prt
attribute [local go_sem ↓] eql_blk eql_sel neq_sel eql_prt eql_pod
attribute [local go_sem ↓] met_in1 met_in2 met_re1 met_re2
attribute [local go_sem ↓] met_has1 met_has2
attribute [local go_sem ↓] met_bl1 met_bl2
set_option linter.unusedVariables false
set_option linter.unusedSimpArgs false
section
variable {H : Type} {enc : TypeId × Value → H} {w : World} {base : Nat} {spare : Nat → Bool} {held : Bool}
end
end Go.Proofs.YtmkjlhplgcifiaaGreat
