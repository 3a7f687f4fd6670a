/-
  Drawn regions whose operations only read and whose calls only make new memory, but for a tail that waits for all of them.
  The document's answer: when a peer, a rule, a policy is right.
  The document's answer: when rules and a policy are right.
-/
import Derived.Test.YtmkjlhplgcifiaaGreatQ01
import Derived.Test.YtmkjlhplgcifiaaGreatQ03
import Derived.Test.YtmkjlhplgcifiaaGreatQ12
import Derived.Test.YtmkjlhplgcifiaaGreatQ07
namespace Go.Proofs.YtmkjlhplgcifiaaGreat
open Go.ChangeShapes Go.WideShapes Go.ChangeAt Go.RowKit
attribute [local simp] World.cell?_grow
attribute [local go_sem] World.cell?_grow
set_option linter.unusedVariables false

theorem takes_2 {α : Type} (a0 a1 : α) (r : List α) : (a0 :: a1 :: r).take 2 = [a0, a1] := rfl
theorem drops_2 {α : Type} (a0 a1 : α) (r : List α) : (a0 :: a1 :: r).drop 2 = r := rfl
theorem takes_3 {α : Type} (a0 a1 a2 : α) (r : List α) : (a0 :: a1 :: a2 :: r).take 3 = [a0, a1, a2] := rfl
theorem drops_3 {α : Type} (a0 a1 a2 : α) (r : List α) : (a0 :: a1 :: a2 :: r).drop 3 = r := rfl
theorem takes_4 {α : Type} (a0 a1 a2 a3 : α) (r : List α) : (a0 :: a1 :: a2 :: a3 :: r).take 4 = [a0, a1, a2, a3] := rfl
theorem drops_4 {α : Type} (a0 a1 a2 a3 : α) (r : List α) : (a0 :: a1 :: a2 :: a3 :: r).drop 4 = r := rfl
theorem takes_5 {α : Type} (a0 a1 a2 a3 a4 : α) (r : List α) : (a0 :: a1 :: a2 :: a3 :: a4 :: r).take 5 = [a0, a1, a2, a3, a4] := rfl
theorem drops_5 {α : Type} (a0 a1 a2 a3 a4 : α) (r : List α) : (a0 :: a1 :: a2 :: a3 :: a4 :: r).drop 5 = r := rfl
theorem takes_6 {α : Type} (a0 a1 a2 a3 a4 a5 : α) (r : List α) : (a0 :: a1 :: a2 :: a3 :: a4 :: a5 :: r).take 6 = [a0, a1, a2, a3, a4, a5] := rfl
theorem drops_6 {α : Type} (a0 a1 a2 a3 a4 a5 : α) (r : List α) : (a0 :: a1 :: a2 :: a3 :: a4 :: a5 :: r).drop 6 = r := rfl
theorem takes_7 {α : Type} (a0 a1 a2 a3 a4 a5 a6 : α) (r : List α) : (a0 :: a1 :: a2 :: a3 :: a4 :: a5 :: a6 :: r).take 7 = [a0, a1, a2, a3, a4, a5, a6] := rfl
theorem drops_7 {α : Type} (a0 a1 a2 a3 a4 a5 a6 : α) (r : List α) : (a0 :: a1 :: a2 :: a3 :: a4 :: a5 :: a6 :: r).drop 7 = r := rfl
theorem takes_8 {α : Type} (a0 a1 a2 a3 a4 a5 a6 a7 : α) (r : List α) : (a0 :: a1 :: a2 :: a3 :: a4 :: a5 :: a6 :: a7 :: r).take 8 = [a0, a1, a2, a3, a4, a5, a6, a7] := rfl
theorem drops_8 {α : Type} (a0 a1 a2 a3 a4 a5 a6 a7 : α) (r : List α) : (a0 :: a1 :: a2 :: a3 :: a4 :: a5 :: a6 :: a7 :: r).drop 8 = r := rfl
theorem takes_9 {α : Type} (a0 a1 a2 a3 a4 a5 a6 a7 a8 : α) (r : List α) : (a0 :: a1 :: a2 :: a3 :: a4 :: a5 :: a6 :: a7 :: a8 :: r).take 9 = [a0, a1, a2, a3, a4, a5, a6, a7, a8] := rfl
theorem drops_9 {α : Type} (a0 a1 a2 a3 a4 a5 a6 a7 a8 : α) (r : List α) : (a0 :: a1 :: a2 :: a3 :: a4 :: a5 :: a6 :: a7 :: a8 :: r).drop 9 = r := rfl
theorem takes_10 {α : Type} (a0 a1 a2 a3 a4 a5 a6 a7 a8 a9 : α) (r : List α) : (a0 :: a1 :: a2 :: a3 :: a4 :: a5 :: a6 :: a7 :: a8 :: a9 :: r).take 10 = [a0, a1, a2, a3, a4, a5, a6, a7, a8, a9] := rfl
theorem drops_10 {α : Type} (a0 a1 a2 a3 a4 a5 a6 a7 a8 a9 : α) (r : List α) : (a0 :: a1 :: a2 :: a3 :: a4 :: a5 :: a6 :: a7 :: a8 :: a9 :: r).drop 10 = r := rfl
theorem takes_11 {α : Type} (a0 a1 a2 a3 a4 a5 a6 a7 a8 a9 b0 : α) (r : List α) : (a0 :: a1 :: a2 :: a3 :: a4 :: a5 :: a6 :: a7 :: a8 :: a9 :: b0 :: r).take 11 = [a0, a1, a2, a3, a4, a5, a6, a7, a8, a9, b0] := rfl
theorem drops_11 {α : Type} (a0 a1 a2 a3 a4 a5 a6 a7 a8 a9 b0 : α) (r : List α) : (a0 :: a1 :: a2 :: a3 :: a4 :: a5 :: a6 :: a7 :: a8 :: a9 :: b0 :: r).drop 11 = r := rfl
theorem takes_12 {α : Type} (a0 a1 a2 a3 a4 a5 a6 a7 a8 a9 b0 b1 : α) (r : List α) : (a0 :: a1 :: a2 :: a3 :: a4 :: a5 :: a6 :: a7 :: a8 :: a9 :: b0 :: b1 :: r).take 12 = [a0, a1, a2, a3, a4, a5, a6, a7, a8, a9, b0, b1] := rfl
theorem drops_12 {α : Type} (a0 a1 a2 a3 a4 a5 a6 a7 a8 a9 b0 b1 : α) (r : List α) : (a0 :: a1 :: a2 :: a3 :: a4 :: a5 :: a6 :: a7 :: a8 :: a9 :: b0 :: b1 :: r).drop 12 = r := rfl
theorem takes_13 {α : Type} (a0 a1 a2 a3 a4 a5 a6 a7 a8 a9 b0 b1 b2 : α) (r : List α) : (a0 :: a1 :: a2 :: a3 :: a4 :: a5 :: a6 :: a7 :: a8 :: a9 :: b0 :: b1 :: b2 :: r).take 13 = [a0, a1, a2, a3, a4, a5, a6, a7, a8, a9, b0, b1, b2] := rfl
theorem drops_13 {α : Type} (a0 a1 a2 a3 a4 a5 a6 a7 a8 a9 b0 b1 b2 : α) (r : List α) : (a0 :: a1 :: a2 :: a3 :: a4 :: a5 :: a6 :: a7 :: a8 :: a9 :: b0 :: b1 :: b2 :: r).drop 13 = r := rfl
theorem takes_14 {α : Type} (a0 a1 a2 a3 a4 a5 a6 a7 a8 a9 b0 b1 b2 b3 : α) (r : List α) : (a0 :: a1 :: a2 :: a3 :: a4 :: a5 :: a6 :: a7 :: a8 :: a9 :: b0 :: b1 :: b2 :: b3 :: r).take 14 = [a0, a1, a2, a3, a4, a5, a6, a7, a8, a9, b0, b1, b2, b3] := rfl
theorem drops_14 {α : Type} (a0 a1 a2 a3 a4 a5 a6 a7 a8 a9 b0 b1 b2 b3 : α) (r : List α) : (a0 :: a1 :: a2 :: a3 :: a4 :: a5 :: a6 :: a7 :: a8 :: a9 :: b0 :: b1 :: b2 :: b3 :: r).drop 14 = r := rfl
theorem takes_15 {α : Type} (a0 a1 a2 a3 a4 a5 a6 a7 a8 a9 b0 b1 b2 b3 b4 : α) (r : List α) : (a0 :: a1 :: a2 :: a3 :: a4 :: a5 :: a6 :: a7 :: a8 :: a9 :: b0 :: b1 :: b2 :: b3 :: b4 :: r).take 15 = [a0, a1, a2, a3, a4, a5, a6, a7, a8, a9, b0, b1, b2, b3, b4] := rfl
theorem drops_15 {α : Type} (a0 a1 a2 a3 a4 a5 a6 a7 a8 a9 b0 b1 b2 b3 b4 : α) (r : List α) : (a0 :: a1 :: a2 :: a3 :: a4 :: a5 :: a6 :: a7 :: a8 :: a9 :: b0 :: b1 :: b2 :: b3 :: b4 :: r).drop 15 = r := rfl
theorem takes_16 {α : Type} (a0 a1 a2 a3 a4 a5 a6 a7 a8 a9 b0 b1 b2 b3 b4 b5 : α) (r : List α) : (a0 :: a1 :: a2 :: a3 :: a4 :: a5 :: a6 :: a7 :: a8 :: a9 :: b0 :: b1 :: b2 :: b3 :: b4 :: b5 :: r).take 16 = [a0, a1, a2, a3, a4, a5, a6, a7, a8, a9, b0, b1, b2, b3, b4, b5] := rfl
theorem drops_16 {α : Type} (a0 a1 a2 a3 a4 a5 a6 a7 a8 a9 b0 b1 b2 b3 b4 b5 : α) (r : List α) : (a0 :: a1 :: a2 :: a3 :: a4 :: a5 :: a6 :: a7 :: a8 :: a9 :: b0 :: b1 :: b2 :: b3 :: b4 :: b5 :: r).drop 16 = r := rfl
theorem takes_17 {α : Type} (a0 a1 a2 a3 a4 a5 a6 a7 a8 a9 b0 b1 b2 b3 b4 b5 b6 : α) (r : List α) : (a0 :: a1 :: a2 :: a3 :: a4 :: a5 :: a6 :: a7 :: a8 :: a9 :: b0 :: b1 :: b2 :: b3 :: b4 :: b5 :: b6 :: r).take 17 = [a0, a1, a2, a3, a4, a5, a6, a7, a8, a9, b0, b1, b2, b3, b4, b5, b6] := rfl
theorem drops_17 {α : Type} (a0 a1 a2 a3 a4 a5 a6 a7 a8 a9 b0 b1 b2 b3 b4 b5 b6 : α) (r : List α) : (a0 :: a1 :: a2 :: a3 :: a4 :: a5 :: a6 :: a7 :: a8 :: a9 :: b0 :: b1 :: b2 :: b3 :: b4 :: b5 :: b6 :: r).drop 17 = r := rfl
theorem takes_18 {α : Type} (a0 a1 a2 a3 a4 a5 a6 a7 a8 a9 b0 b1 b2 b3 b4 b5 b6 b7 : α) (r : List α) : (a0 :: a1 :: a2 :: a3 :: a4 :: a5 :: a6 :: a7 :: a8 :: a9 :: b0 :: b1 :: b2 :: b3 :: b4 :: b5 :: b6 :: b7 :: r).take 18 = [a0, a1, a2, a3, a4, a5, a6, a7, a8, a9, b0, b1, b2, b3, b4, b5, b6, b7] := rfl
theorem drops_18 {α : Type} (a0 a1 a2 a3 a4 a5 a6 a7 a8 a9 b0 b1 b2 b3 b4 b5 b6 b7 : α) (r : List α) : (a0 :: a1 :: a2 :: a3 :: a4 :: a5 :: a6 :: a7 :: a8 :: a9 :: b0 :: b1 :: b2 :: b3 :: b4 :: b5 :: b6 :: b7 :: r).drop 18 = r := rfl
theorem takes_19 {α : Type} (a0 a1 a2 a3 a4 a5 a6 a7 a8 a9 b0 b1 b2 b3 b4 b5 b6 b7 b8 : α) (r : List α) : (a0 :: a1 :: a2 :: a3 :: a4 :: a5 :: a6 :: a7 :: a8 :: a9 :: b0 :: b1 :: b2 :: b3 :: b4 :: b5 :: b6 :: b7 :: b8 :: r).take 19 = [a0, a1, a2, a3, a4, a5, a6, a7, a8, a9, b0, b1, b2, b3, b4, b5, b6, b7, b8] := rfl
theorem drops_19 {α : Type} (a0 a1 a2 a3 a4 a5 a6 a7 a8 a9 b0 b1 b2 b3 b4 b5 b6 b7 b8 : α) (r : List α) : (a0 :: a1 :: a2 :: a3 :: a4 :: a5 :: a6 :: a7 :: a8 :: a9 :: b0 :: b1 :: b2 :: b3 :: b4 :: b5 :: b6 :: b7 :: b8 :: r).drop 19 = r := rfl
theorem takes_20 {α : Type} (a0 a1 a2 a3 a4 a5 a6 a7 a8 a9 b0 b1 b2 b3 b4 b5 b6 b7 b8 b9 : α) (r : List α) : (a0 :: a1 :: a2 :: a3 :: a4 :: a5 :: a6 :: a7 :: a8 :: a9 :: b0 :: b1 :: b2 :: b3 :: b4 :: b5 :: b6 :: b7 :: b8 :: b9 :: r).take 20 = [a0, a1, a2, a3, a4, a5, a6, a7, a8, a9, b0, b1, b2, b3, b4, b5, b6, b7, b8, b9] := rfl
theorem drops_20 {α : Type} (a0 a1 a2 a3 a4 a5 a6 a7 a8 a9 b0 b1 b2 b3 b4 b5 b6 b7 b8 b9 : α) (r : List α) : (a0 :: a1 :: a2 :: a3 :: a4 :: a5 :: a6 :: a7 :: a8 :: a9 :: b0 :: b1 :: b2 :: b3 :: b4 :: b5 :: b6 :: b7 :: b8 :: b9 :: r).drop 20 = r := rfl
theorem takes_21 {α : Type} (a0 a1 a2 a3 a4 a5 a6 a7 a8 a9 b0 b1 b2 b3 b4 b5 b6 b7 b8 b9 c0 : α) (r : List α) : (a0 :: a1 :: a2 :: a3 :: a4 :: a5 :: a6 :: a7 :: a8 :: a9 :: b0 :: b1 :: b2 :: b3 :: b4 :: b5 :: b6 :: b7 :: b8 :: b9 :: c0 :: r).take 21 = [a0, a1, a2, a3, a4, a5, a6, a7, a8, a9, b0, b1, b2, b3, b4, b5, b6, b7, b8, b9, c0] := rfl
theorem drops_21 {α : Type} (a0 a1 a2 a3 a4 a5 a6 a7 a8 a9 b0 b1 b2 b3 b4 b5 b6 b7 b8 b9 c0 : α) (r : List α) : (a0 :: a1 :: a2 :: a3 :: a4 :: a5 :: a6 :: a7 :: a8 :: a9 :: b0 :: b1 :: b2 :: b3 :: b4 :: b5 :: b6 :: b7 :: b8 :: b9 :: c0 :: r).drop 21 = r := rfl
theorem takes_22 {α : Type} (a0 a1 a2 a3 a4 a5 a6 a7 a8 a9 b0 b1 b2 b3 b4 b5 b6 b7 b8 b9 c0 c1 : α) (r : List α) : (a0 :: a1 :: a2 :: a3 :: a4 :: a5 :: a6 :: a7 :: a8 :: a9 :: b0 :: b1 :: b2 :: b3 :: b4 :: b5 :: b6 :: b7 :: b8 :: b9 :: c0 :: c1 :: r).take 22 = [a0, a1, a2, a3, a4, a5, a6, a7, a8, a9, b0, b1, b2, b3, b4, b5, b6, b7, b8, b9, c0, c1] := rfl
theorem drops_22 {α : Type} (a0 a1 a2 a3 a4 a5 a6 a7 a8 a9 b0 b1 b2 b3 b4 b5 b6 b7 b8 b9 c0 c1 : α) (r : List α) : (a0 :: a1 :: a2 :: a3 :: a4 :: a5 :: a6 :: a7 :: a8 :: a9 :: b0 :: b1 :: b2 :: b3 :: b4 :: b5 :: b6 :: b7 :: b8 :: b9 :: c0 :: c1 :: r).drop 22 = r := rfl
theorem takes_23 {α : Type} (a0 a1 a2 a3 a4 a5 a6 a7 a8 a9 b0 b1 b2 b3 b4 b5 b6 b7 b8 b9 c0 c1 c2 : α) (r : List α) : (a0 :: a1 :: a2 :: a3 :: a4 :: a5 :: a6 :: a7 :: a8 :: a9 :: b0 :: b1 :: b2 :: b3 :: b4 :: b5 :: b6 :: b7 :: b8 :: b9 :: c0 :: c1 :: c2 :: r).take 23 = [a0, a1, a2, a3, a4, a5, a6, a7, a8, a9, b0, b1, b2, b3, b4, b5, b6, b7, b8, b9, c0, c1, c2] := rfl
theorem drops_23 {α : Type} (a0 a1 a2 a3 a4 a5 a6 a7 a8 a9 b0 b1 b2 b3 b4 b5 b6 b7 b8 b9 c0 c1 c2 : α) (r : List α) : (a0 :: a1 :: a2 :: a3 :: a4 :: a5 :: a6 :: a7 :: a8 :: a9 :: b0 :: b1 :: b2 :: b3 :: b4 :: b5 :: b6 :: b7 :: b8 :: b9 :: c0 :: c1 :: c2 :: r).drop 23 = r := rfl
theorem takes_24 {α : Type} (a0 a1 a2 a3 a4 a5 a6 a7 a8 a9 b0 b1 b2 b3 b4 b5 b6 b7 b8 b9 c0 c1 c2 c3 : α) (r : List α) : (a0 :: a1 :: a2 :: a3 :: a4 :: a5 :: a6 :: a7 :: a8 :: a9 :: b0 :: b1 :: b2 :: b3 :: b4 :: b5 :: b6 :: b7 :: b8 :: b9 :: c0 :: c1 :: c2 :: c3 :: r).take 24 = [a0, a1, a2, a3, a4, a5, a6, a7, a8, a9, b0, b1, b2, b3, b4, b5, b6, b7, b8, b9, c0, c1, c2, c3] := rfl
theorem drops_24 {α : Type} (a0 a1 a2 a3 a4 a5 a6 a7 a8 a9 b0 b1 b2 b3 b4 b5 b6 b7 b8 b9 c0 c1 c2 c3 : α) (r : List α) : (a0 :: a1 :: a2 :: a3 :: a4 :: a5 :: a6 :: a7 :: a8 :: a9 :: b0 :: b1 :: b2 :: b3 :: b4 :: b5 :: b6 :: b7 :: b8 :: b9 :: c0 :: c1 :: c2 :: c3 :: r).drop 24 = r := rfl
theorem takes_25 {α : Type} (a0 a1 a2 a3 a4 a5 a6 a7 a8 a9 b0 b1 b2 b3 b4 b5 b6 b7 b8 b9 c0 c1 c2 c3 c4 : α) (r : List α) : (a0 :: a1 :: a2 :: a3 :: a4 :: a5 :: a6 :: a7 :: a8 :: a9 :: b0 :: b1 :: b2 :: b3 :: b4 :: b5 :: b6 :: b7 :: b8 :: b9 :: c0 :: c1 :: c2 :: c3 :: c4 :: r).take 25 = [a0, a1, a2, a3, a4, a5, a6, a7, a8, a9, b0, b1, b2, b3, b4, b5, b6, b7, b8, b9, c0, c1, c2, c3, c4] := rfl
theorem drops_25 {α : Type} (a0 a1 a2 a3 a4 a5 a6 a7 a8 a9 b0 b1 b2 b3 b4 b5 b6 b7 b8 b9 c0 c1 c2 c3 c4 : α) (r : List α) : (a0 :: a1 :: a2 :: a3 :: a4 :: a5 :: a6 :: a7 :: a8 :: a9 :: b0 :: b1 :: b2 :: b3 :: b4 :: b5 :: b6 :: b7 :: b8 :: b9 :: c0 :: c1 :: c2 :: c3 :: c4 :: r).drop 25 = r := rfl
theorem takes_26 {α : Type} (a0 a1 a2 a3 a4 a5 a6 a7 a8 a9 b0 b1 b2 b3 b4 b5 b6 b7 b8 b9 c0 c1 c2 c3 c4 c5 : α) (r : List α) : (a0 :: a1 :: a2 :: a3 :: a4 :: a5 :: a6 :: a7 :: a8 :: a9 :: b0 :: b1 :: b2 :: b3 :: b4 :: b5 :: b6 :: b7 :: b8 :: b9 :: c0 :: c1 :: c2 :: c3 :: c4 :: c5 :: r).take 26 = [a0, a1, a2, a3, a4, a5, a6, a7, a8, a9, b0, b1, b2, b3, b4, b5, b6, b7, b8, b9, c0, c1, c2, c3, c4, c5] := rfl
theorem drops_26 {α : Type} (a0 a1 a2 a3 a4 a5 a6 a7 a8 a9 b0 b1 b2 b3 b4 b5 b6 b7 b8 b9 c0 c1 c2 c3 c4 c5 : α) (r : List α) : (a0 :: a1 :: a2 :: a3 :: a4 :: a5 :: a6 :: a7 :: a8 :: a9 :: b0 :: b1 :: b2 :: b3 :: b4 :: b5 :: b6 :: b7 :: b8 :: b9 :: c0 :: c1 :: c2 :: c3 :: c4 :: c5 :: r).drop 26 = r := rfl
theorem takes_27 {α : Type} (a0 a1 a2 a3 a4 a5 a6 a7 a8 a9 b0 b1 b2 b3 b4 b5 b6 b7 b8 b9 c0 c1 c2 c3 c4 c5 c6 : α) (r : List α) : (a0 :: a1 :: a2 :: a3 :: a4 :: a5 :: a6 :: a7 :: a8 :: a9 :: b0 :: b1 :: b2 :: b3 :: b4 :: b5 :: b6 :: b7 :: b8 :: b9 :: c0 :: c1 :: c2 :: c3 :: c4 :: c5 :: c6 :: r).take 27 = [a0, a1, a2, a3, a4, a5, a6, a7, a8, a9, b0, b1, b2, b3, b4, b5, b6, b7, b8, b9, c0, c1, c2, c3, c4, c5, c6] := rfl
theorem drops_27 {α : Type} (a0 a1 a2 a3 a4 a5 a6 a7 a8 a9 b0 b1 b2 b3 b4 b5 b6 b7 b8 b9 c0 c1 c2 c3 c4 c5 c6 : α) (r : List α) : (a0 :: a1 :: a2 :: a3 :: a4 :: a5 :: a6 :: a7 :: a8 :: a9 :: b0 :: b1 :: b2 :: b3 :: b4 :: b5 :: b6 :: b7 :: b8 :: b9 :: c0 :: c1 :: c2 :: c3 :: c4 :: c5 :: c6 :: r).drop 27 = r := rfl
theorem takes_28 {α : Type} (a0 a1 a2 a3 a4 a5 a6 a7 a8 a9 b0 b1 b2 b3 b4 b5 b6 b7 b8 b9 c0 c1 c2 c3 c4 c5 c6 c7 : α) (r : List α) : (a0 :: a1 :: a2 :: a3 :: a4 :: a5 :: a6 :: a7 :: a8 :: a9 :: b0 :: b1 :: b2 :: b3 :: b4 :: b5 :: b6 :: b7 :: b8 :: b9 :: c0 :: c1 :: c2 :: c3 :: c4 :: c5 :: c6 :: c7 :: r).take 28 = [a0, a1, a2, a3, a4, a5, a6, a7, a8, a9, b0, b1, b2, b3, b4, b5, b6, b7, b8, b9, c0, c1, c2, c3, c4, c5, c6, c7] := rfl
theorem drops_28 {α : Type} (a0 a1 a2 a3 a4 a5 a6 a7 a8 a9 b0 b1 b2 b3 b4 b5 b6 b7 b8 b9 c0 c1 c2 c3 c4 c5 c6 c7 : α) (r : List α) : (a0 :: a1 :: a2 :: a3 :: a4 :: a5 :: a6 :: a7 :: a8 :: a9 :: b0 :: b1 :: b2 :: b3 :: b4 :: b5 :: b6 :: b7 :: b8 :: b9 :: c0 :: c1 :: c2 :: c3 :: c4 :: c5 :: c6 :: c7 :: r).drop 28 = r := rfl
theorem takes_29 {α : Type} (a0 a1 a2 a3 a4 a5 a6 a7 a8 a9 b0 b1 b2 b3 b4 b5 b6 b7 b8 b9 c0 c1 c2 c3 c4 c5 c6 c7 c8 : α) (r : List α) : (a0 :: a1 :: a2 :: a3 :: a4 :: a5 :: a6 :: a7 :: a8 :: a9 :: b0 :: b1 :: b2 :: b3 :: b4 :: b5 :: b6 :: b7 :: b8 :: b9 :: c0 :: c1 :: c2 :: c3 :: c4 :: c5 :: c6 :: c7 :: c8 :: r).take 29 = [a0, a1, a2, a3, a4, a5, a6, a7, a8, a9, b0, b1, b2, b3, b4, b5, b6, b7, b8, b9, c0, c1, c2, c3, c4, c5, c6, c7, c8] := rfl
theorem drops_29 {α : Type} (a0 a1 a2 a3 a4 a5 a6 a7 a8 a9 b0 b1 b2 b3 b4 b5 b6 b7 b8 b9 c0 c1 c2 c3 c4 c5 c6 c7 c8 : α) (r : List α) : (a0 :: a1 :: a2 :: a3 :: a4 :: a5 :: a6 :: a7 :: a8 :: a9 :: b0 :: b1 :: b2 :: b3 :: b4 :: b5 :: b6 :: b7 :: b8 :: b9 :: c0 :: c1 :: c2 :: c3 :: c4 :: c5 :: c6 :: c7 :: c8 :: r).drop 29 = r := rfl
theorem takes_30 {α : Type} (a0 a1 a2 a3 a4 a5 a6 a7 a8 a9 b0 b1 b2 b3 b4 b5 b6 b7 b8 b9 c0 c1 c2 c3 c4 c5 c6 c7 c8 c9 : α) (r : List α) : (a0 :: a1 :: a2 :: a3 :: a4 :: a5 :: a6 :: a7 :: a8 :: a9 :: b0 :: b1 :: b2 :: b3 :: b4 :: b5 :: b6 :: b7 :: b8 :: b9 :: c0 :: c1 :: c2 :: c3 :: c4 :: c5 :: c6 :: c7 :: c8 :: c9 :: r).take 30 = [a0, a1, a2, a3, a4, a5, a6, a7, a8, a9, b0, b1, b2, b3, b4, b5, b6, b7, b8, b9, c0, c1, c2, c3, c4, c5, c6, c7, c8, c9] := rfl
theorem drops_30 {α : Type} (a0 a1 a2 a3 a4 a5 a6 a7 a8 a9 b0 b1 b2 b3 b4 b5 b6 b7 b8 b9 c0 c1 c2 c3 c4 c5 c6 c7 c8 c9 : α) (r : List α) : (a0 :: a1 :: a2 :: a3 :: a4 :: a5 :: a6 :: a7 :: a8 :: a9 :: b0 :: b1 :: b2 :: b3 :: b4 :: b5 :: b6 :: b7 :: b8 :: b9 :: c0 :: c1 :: c2 :: c3 :: c4 :: c5 :: c6 :: c7 :: c8 :: c9 :: r).drop 30 = r := rfl

theorem wp_region_grow_tail {P : Program} {id : Nat} {Q : Exit → Act → World → Prop} {a : Act} {w : World} {l : List Oper} (n : Nat) (hm : P.follows .mixedOrders = true) (hB : Region.lexB .any (l.take n).toArray = true)
    (hT : (tailB .any l.toArray n && seqB .any l.toArray (l.length - n) n ((Array.replicate n true) ++ (Array.replicate (l.length - n) false))) = true)
    (h : wpQuiet P (l.take n).toArray (fun w' => ∃ u, w' = w.grow u) (fun a' => ∀ w', Below w.heap.size w w' → wpList P l.toArray Q (l.drop n) a' w') (l.take n) a) : (Code.region id l.toArray true).wp P Q a w := by
  refine wp_region_quiet_tail (C := fun w' => ∃ u, w' = w.grow u) n hm hB hT (World.grow_of_below ⟨rfl, rfl, rfl, Nat.le_refl _, fun _ _ => rfl⟩) ?_
  have e : (fun a' => ∀ w', Below w.heap.size w w' → wpList P l.toArray Q (l.drop n) a' w') = fun a' => ∀ w', (∃ u, w' = w.grow u) → wpList P l.toArray Q (l.drop n) a' w' := by
    funext a'
    refine propext ⟨fun H w' ⟨u, hu⟩ => hu ▸ H _ (World.below_grow w u), fun H w' hb => H w' (World.grow_of_below hb)⟩
  rw [← e]
  exact h
end Go.Proofs.YtmkjlhplgcifiaaGreat
namespace Go.Proofs.YtmkjlhplgcifiaaGreat
open Go.ChangeShapes Go.WideShapes Go.ChangeAt Go.RowKit
attribute [local simp] World.cell?_grow
attribute [local go_sem] World.cell?_grow
attribute [local simp] World.cell?_alloc_there
attribute [local go_sem] World.cell?_alloc_there
attribute [local go_sem] eqg_blk std_blk eqg_pod std_pod eqg_sel std_sel eqg_prt std_prt
attribute [local go_sem ↓] eql_blk eql_sel neq_sel eql_prt eql_pod
attribute [local go_sem ↓] met_in1 met_in2 met_re1 met_re2
attribute [local go_sem ↓] met_has1 met_has2
set_option linter.unusedVariables false
set_option linter.unusedSimpArgs false

theorem bneF {a b : Int} (h : a = b) : (a != b) = false := by simp [h]
theorem bneT {a b : Int} (h : ¬ a = b) : (a != b) = true := by simp [h]

set_option maxHeartbeats 2000000 in
theorem refPeer_pods (x : DPeer) (ea : Option Addr) (ec : Nat) (w : World) (hr : rdBlks w.heap.size w ea x.exc) (hk : x.kind = 1) :
    Calls Tryz.prog 166 #[.agg #[.int .i64 x.kind, .int .i64 x.need, .int .i64 x.ban, .int .i64 x.spaces, .int .i64 x.base, .int .i64 x.bits, .slice ea x.exc.length ec]] w fun e w' => e = .returned (.bool (peerOk x)) ∧ Below w.heap.size w w' := by
  have hlen := hr.1
  have h1 : (x.kind == 1) = true := by simp [hk]
  have HP := hid (show peerOk x = (selOk x.need x.ban && btw x.spaces 0 15 && decide (x.base = 0) && decide (x.bits = 0) && decide (x.exc.length = 0)) by rw [peerOk, if_pos hk])
  clear hr hk
  cases hq1 : selOk x.need x.ban
  · have HF := hid (show peerOk x = false by rw [HP.out, hq1]; simp)
    go_enter Tryz.func166, Tryz.ntmps166
    go_wp2_with (first
      | (go_at_call 137; refine (refSel_any _ _ _).mono ?_; rintro e w1 ⟨rfl, hb1⟩; obtain ⟨hc1, hf1⟩ := bcell hb1; have hz1 := hb_lt hb1)
      | (go_at_call 113; refine (between_any _ _ _ _).mono ?_; rintro e w' ⟨rfl, rfl⟩))
    go_ret
    exact ⟨ret_bool (by rw [HF.out]), (by repeat (first | exact Below.refl _ _ | assumption | apply Ext.alloc | apply Ext.drewN | apply Ext.drew | refine Ext.trans ?_ (by assumption)))⟩
  cases hq2 : btw x.spaces 0 15
  · have HF := hid (show peerOk x = false by rw [HP.out, hq1, hq2]; simp)
    go_enter Tryz.func166, Tryz.ntmps166
    go_wp2_with (first
      | (go_at_call 137; refine (refSel_any _ _ _).mono ?_; rintro e w1 ⟨rfl, hb1⟩; obtain ⟨hc1, hf1⟩ := bcell hb1; have hz1 := hb_lt hb1)
      | (go_at_call 113; refine (between_any _ _ _ _).mono ?_; rintro e w' ⟨rfl, rfl⟩))
    go_ret
    exact ⟨ret_bool (by rw [HF.out]), (by repeat (first | exact Below.refl _ _ | assumption | apply Ext.alloc | apply Ext.drewN | apply Ext.drew | refine Ext.trans ?_ (by assumption)))⟩
  cases hq3 : (decide (x.base = 0) && decide (x.bits = 0))
  · have HF := hid (show peerOk x = false by rw [HP.out, hq1, hq2, Bool.and_assoc (true && true), hq3]; simp)
    go_enter Tryz.func166, Tryz.ntmps166
    go_wp2_with (first
      | (go_at_call 137; refine (refSel_any _ _ _).mono ?_; rintro e w1 ⟨rfl, hb1⟩; obtain ⟨hc1, hf1⟩ := bcell hb1; have hz1 := hb_lt hb1)
      | (go_at_call 113; refine (between_any _ _ _ _).mono ?_; rintro e w' ⟨rfl, rfl⟩))
    go_ret
    exact ⟨ret_bool (by rw [HF.out]), (by repeat (first | exact Below.refl _ _ | assumption | apply Ext.alloc | apply Ext.drewN | apply Ext.drew | refine Ext.trans ?_ (by assumption)))⟩
  have HF := hid (show peerOk x = ((x.exc.length : Int) == 0) by rw [HP.out, hq1, hq2, Bool.and_assoc (true && true), hq3, ibeq]; simp)
  go_enter Tryz.func166, Tryz.ntmps166
  go_wp2_with (first
    | (go_at_call 137; refine (refSel_any _ _ _).mono ?_; rintro e w1 ⟨rfl, hb1⟩; obtain ⟨hc1, hf1⟩ := bcell hb1; have hz1 := hb_lt hb1)
    | (go_at_call 113; refine (between_any _ _ _ _).mono ?_; rintro e w' ⟨rfl, rfl⟩))
  go_ret
  exact ⟨ret_bool (by rw [HF.out]), (by repeat (first | exact Below.refl _ _ | assumption | apply Ext.alloc | apply Ext.drewN | apply Ext.drew | refine Ext.trans ?_ (by assumption)))⟩

set_option maxHeartbeats 4000000 in
theorem refPeer_blocks (x : DPeer) (ea : Option Addr) (ec : Nat) (w : World) (hr : rdBlks w.heap.size w ea x.exc) (hk : ¬ x.kind = 1) :
    Calls Tryz.prog 166 #[.agg #[.int .i64 x.kind, .int .i64 x.need, .int .i64 x.ban, .int .i64 x.spaces, .int .i64 x.base, .int .i64 x.bits, .slice ea x.exc.length ec]] w fun e w' => e = .returned (.bool (peerOk x)) ∧ Below w.heap.size w w' := by
  have hlen := hr.1
  have HR := hid hr
  have h1 : (x.kind == 1) = false := by simp [hk]
  have HP := hid (show peerOk x = (decide (x.kind = 2) && blkOk ⟨x.base, x.bits⟩ && decide (x.need = 0) && decide (x.ban = 0) && decide (x.spaces = 0) && few x.exc 2 blkOk) by rw [peerOk, if_neg hk])
  clear hr hk
  by_cases hk2 : ¬ x.kind = 2
  · have HF := hid (show peerOk x = false by rw [HP.out]; simp [hk2])
    have h2 := bneT hk2
    clear hk2
    go_enter Tryz.func166, Tryz.ntmps166
    go_wp2_with (go_at_call 142; refine (refBlk_any ⟨x.base, x.bits⟩ _).mono ?_; rintro e w1 ⟨rfl, hb1⟩; obtain ⟨hc1, hf1⟩ := bcell hb1; have hz1 := hb_lt hb1)
    go_ret
    exact ⟨ret_bool (by rw [HF.out]), (by repeat (first | exact Below.refl _ _ | assumption | apply Ext.alloc | apply Ext.drewN | apply Ext.drew | refine Ext.trans ?_ (by assumption)))⟩
  have hk2 := Decidable.not_not.1 hk2
  have h2 := bneF hk2
  have HK := hid hk2
  clear hk2
  cases hq1 : blkOk ⟨x.base, x.bits⟩
  · have HF := hid (show peerOk x = false by rw [HP.out, hq1]; simp)
    go_enter Tryz.func166, Tryz.ntmps166
    go_wp2_with (go_at_call 142; refine (refBlk_any ⟨x.base, x.bits⟩ _).mono ?_; rintro e w1 ⟨rfl, hb1⟩; obtain ⟨hc1, hf1⟩ := bcell hb1; have hz1 := hb_lt hb1)
    go_ret
    exact ⟨ret_bool (by rw [HF.out]), (by repeat (first | exact Below.refl _ _ | assumption | apply Ext.alloc | apply Ext.drewN | apply Ext.drew | refine Ext.trans ?_ (by assumption)))⟩
  cases hq2 : (decide (x.need = 0) && decide (x.ban = 0))
  · have HF := hid (show peerOk x = false by
      rw [HP.out]
      by_cases a : x.need = 0
      · by_cases b : x.ban = 0
        · simp [a, b] at hq2
        · simp [b]
      · simp [a])
    go_enter Tryz.func166, Tryz.ntmps166
    go_wp2_with (go_at_call 142; refine (refBlk_any ⟨x.base, x.bits⟩ _).mono ?_; rintro e w1 ⟨rfl, hb1⟩; obtain ⟨hc1, hf1⟩ := bcell hb1; have hz1 := hb_lt hb1)
    go_ret
    exact ⟨ret_bool (by rw [HF.out]), (by repeat (first | exact Below.refl _ _ | assumption | apply Ext.alloc | apply Ext.drewN | apply Ext.drew | refine Ext.trans ?_ (by assumption)))⟩
  by_cases hs : ¬ x.spaces = 0
  · have HF := hid (show peerOk x = false by rw [HP.out]; simp [hs])
    have h3 := bneT hs
    clear hs
    go_enter Tryz.func166, Tryz.ntmps166
    go_wp2_with (go_at_call 142; refine (refBlk_any ⟨x.base, x.bits⟩ _).mono ?_; rintro e w1 ⟨rfl, hb1⟩; obtain ⟨hc1, hf1⟩ := bcell hb1; have hz1 := hb_lt hb1)
    go_ret
    exact ⟨ret_bool (by rw [HF.out]), (by repeat (first | exact Below.refl _ _ | assumption | apply Ext.alloc | apply Ext.drewN | apply Ext.drew | refine Ext.trans ?_ (by assumption)))⟩
  have hs := Decidable.not_not.1 hs
  have h3 := bneF hs
  have HS := hid hs
  clear hs
  by_cases hl : ¬ (x.exc.length : Int) ≤ 2
  · have HF := hid (show peerOk x = false by rw [HP.out]; simp [few, hl])
    go_enter Tryz.func166, Tryz.ntmps166
    go_wp2_with (go_at_call 142; refine (refBlk_any ⟨x.base, x.bits⟩ _).mono ?_; rintro e w1 ⟨rfl, hb1⟩; obtain ⟨hc1, hf1⟩ := bcell hb1; have hz1 := hb_lt hb1)
    go_ret
    exact ⟨ret_bool (by rw [HF.out]), (by repeat (first | exact Below.refl _ _ | assumption | apply Ext.alloc | apply Ext.drewN | apply Ext.drew | refine Ext.trans ?_ (by assumption)))⟩
  have hl := Decidable.not_not.1 hl
  have HF := hid (show peerOk x = x.exc.all blkOk by
    have a := hq2
    simp only [Bool.and_eq_true, decide_eq_true_eq] at a
    rw [HP.out, hq1]
    simp [few, hl, HK.out, HS.out, a.1, a.2])
  go_enter Tryz.func166, Tryz.ntmps166
  go_wp2_with (go_at_call 142; refine (refBlk_any ⟨x.base, x.bits⟩ _).mono ?_; rintro e w1 ⟨rfl, hb1⟩; obtain ⟨hc1, hf1⟩ := bcell hb1; have hz1 := hb_lt hb1)
  go_loopw [6] (fun i wr => ∃ k : Nat, k ≤ x.exc.length ∧ i = .int .i64 k ∧ (x.exc.take k).all blkOk = true ∧ Below (w.alloc (Obj.cells #[.int .i64 x.kind, .int .i64 x.need, .int .i64 x.ban, .int .i64 x.spaces, .int .i64 x.base, .int .i64 x.bits, .slice ea x.exc.length ec] 69)).heap.size (w.alloc (Obj.cells #[.int .i64 x.kind, .int .i64 x.need, .int .i64 x.ban, .int .i64 x.spaces, .int .i64 x.base, .int .i64 x.bits, .slice ea x.exc.length ec] 69)) wr) (fun i _ => x.exc.length - (intOf i).toNat)
  case atStart => exact ⟨0, Nat.zero_le _, rfl, rfl, hb1⟩
  case round =>
    obtain ⟨k, hk, rfl, hall, hbw⟩ := hrel
    have HA := hid hall
    clear hall
    have z6 : wr.cell? ⟨w.heap.size, 6, none⟩ = some (.slice ea x.exc.length ec) := cell_to (by simp [go_sem]) hbw
    have hC : Below w.heap.size w wr := Ext.trans (Ext.alloc (Below.refl _ _) _) hbw
    have HW := hid hbw
    clear hbw hc1 hf1 hz1
    by_cases hlt : k < x.exc.length
    · obtain ⟨y, hxk⟩ : ∃ y, x.exc[k]? = some y := ⟨x.exc[k], by simp [hlt]⟩
      have HX := hid hxk
      clear hxk
      obtain ⟨b, off, rfl, hb, c0, c1⟩ := HR.out.2 k y HX.out
      have d0 := cell_to c0 hC
      have d1 := cell_to c1 hC
      clear c0 c1
      cases hy : blkOk y
      · go_wp2_with (go_at_call 142; refine (refBlk_any y _).mono ?_; rintro e w2 ⟨rfl, hb2⟩; obtain ⟨hc2, hf2⟩ := bcell hb2; have hz2 := hb_lt hb2)
        go_ret
        exact ⟨ret_bool (by rw [HF.out, all_false HX.out hy]), Ext.trans hC hb2⟩
      · go_wp2_with (go_at_call 142; refine (refBlk_any y _).mono ?_; rintro e w2 ⟨rfl, hb2⟩; obtain ⟨hc2, hf2⟩ := bcell hb2; have hz2 := hb_lt hb2)
        exact ⟨⟨k + 1, by omega, by go_num, take_all HX.out HA.out hy, Ext.trans HW.out hb2⟩, by simp [intOf]; omega⟩
    · go_wp2
      go_ret
      have := HA.out
      rw [List.take_of_length_le (by omega)] at this
      exact ⟨ret_bool (by rw [HF.out, this]), hC⟩

theorem refPeer_any (x : DPeer) (ea : Option Addr) (ec : Nat) (w : World) (hr : rdBlks w.heap.size w ea x.exc) :
    Calls Tryz.prog 166 #[.agg #[.int .i64 x.kind, .int .i64 x.need, .int .i64 x.ban, .int .i64 x.spaces, .int .i64 x.base, .int .i64 x.bits, .slice ea x.exc.length ec]] w fun e w' => e = .returned (.bool (peerOk x)) ∧ Below w.heap.size w w' := by
  by_cases hk : x.kind = 1
  · exact refPeer_pods x ea ec w hr hk
  · exact refPeer_blocks x ea ec w hr hk
end Go.Proofs.YtmkjlhplgcifiaaGreat
namespace Go.Proofs.YtmkjlhplgcifiaaGreat
open Go.ChangeShapes Go.WideShapes Go.ChangeAt Go.RowKit
attribute [local simp] World.cell?_grow
attribute [local go_sem] World.cell?_grow
attribute [local simp] World.cell?_alloc_there
attribute [local go_sem] World.cell?_alloc_there
attribute [local go_sem] eqg_blk std_blk eqg_pod std_pod eqg_sel std_sel eqg_prt std_prt
attribute [local go_sem ↓] eql_blk eql_sel neq_sel eql_prt eql_pod
attribute [local go_sem ↓] met_in1 met_in2 met_re1 met_re2
attribute [local go_sem ↓] met_has1 met_has2
set_option linter.unusedVariables false
set_option linter.unusedSimpArgs false

theorem rulOk_split (r : DRule) (h1 : (r.peers.length : Int) ≤ 2) (h2 : (r.ports.length : Int) ≤ 2) : rulOk r = (r.peers.all peerOk && r.ports.all prtOk) := by simp [rulOk, few, h1, h2]
theorem rulOk_many (r : DRule) (h : ¬ ((r.peers.length : Int) ≤ 2) ∨ ¬ ((r.ports.length : Int) ≤ 2)) : rulOk r = false := by
  rcases h with h | h <;> simp [rulOk, few, h]

set_option maxRecDepth 100000 in
set_option maxHeartbeats 8000000 in
theorem refRules_any (l : List DRule) (a : Option Addr) (cap : Nat) (way : Bool) (w : World) (hr : rdRules w.heap.size w a l) :
    Calls Tryz.prog 138 #[.slice a l.length cap, .bool way] w fun e w' => e = .returned (.bool (rulesOk l way)) ∧ Below w.heap.size w w' := by
  have HR := hid hr
  have hlen := hr.1
  clear hr
  by_cases hl : ¬ (l.length : Int) ≤ 2
  · have HF := hid (show rulesOk l way = false by simp [rulesOk, few, hl])
    go_enter Tryz.func138, Tryz.ntmps138
    go_wp2
    go_ret
    exact ⟨ret_bool (by rw [HF.out]), (by repeat (first | exact Below.refl _ _ | assumption | apply Ext.alloc | apply Ext.drewN | apply Ext.drew | refine Ext.trans ?_ (by assumption)))⟩
  have hl := Decidable.not_not.1 hl
  by_cases hw : way = false ∧ 0 < l.length
  · obtain ⟨rfl, h0⟩ := hw
    have HF := hid (show rulesOk l false = false by
      have : ¬ l.length = 0 := by omega
      simp [rulesOk, this])
    go_enter Tryz.func138, Tryz.ntmps138
    go_wp2
    go_ret
    exact ⟨ret_bool (by rw [HF.out]), (by repeat (first | exact Below.refl _ _ | assumption | apply Ext.alloc | apply Ext.drewN | apply Ext.drew | refine Ext.trans ?_ (by assumption)))⟩
  have HF := hid (show rulesOk l way = l.all rulOk by
    have h2 : (way || decide (l.length = 0)) = true := by
      cases way
      · have : l.length = 0 := by
          rcases Nat.eq_zero_or_pos l.length with h | h
          · exact h
          · exact absurd ⟨rfl, h⟩ hw
        simp [this]
      · rfl
    rw [rulesOk, h2, few]
    simp [hl])
  have hw2 : way = false → (l.length : Int) = 0 := fun h => by
    rcases Nat.eq_zero_or_pos l.length with h' | h'
    · omega
    · exact absurd ⟨h, h'⟩ hw
  clear hw
  have key : Calls Tryz.prog 138 #[.slice a l.length cap, .bool way] w fun e w' => e = .returned (.bool (l.all rulOk)) ∧ Below w.heap.size w w' := by
    cases way
    · have hw3 := hw2 rfl
      clear hw2 HF
      go_enter Tryz.func138, Tryz.ntmps138
      go_wp2
      go_loopw [5] (fun i wr => ∃ k : Nat, k ≤ l.length ∧ i = .int .i64 k ∧ (l.take k).all rulOk = true ∧ Below w.heap.size w wr) (fun i _ => l.length - (intOf i).toNat)
      case atStart => exact ⟨0, Nat.zero_le _, rfl, rfl, Below.refl _ _⟩
      case round =>
        obtain ⟨k, hk, rfl, hall, hbw⟩ := hrel
        have HA := hid hall
        clear hall
        have hk2 : ¬ k < l.length := by omega
        go_wp2
        go_ret
        have := HA.out
        rw [List.take_of_length_le (by omega)] at this
        exact ⟨ret_bool (by rw [this]), hbw⟩
    · clear hw2 HF
      go_enter Tryz.func138, Tryz.ntmps138
      go_wp2
      go_loopw [5] (fun i wr => ∃ k : Nat, k ≤ l.length ∧ i = .int .i64 k ∧ (l.take k).all rulOk = true ∧ Below w.heap.size w wr) (fun i _ => l.length - (intOf i).toNat)
      case atStart => exact ⟨0, Nat.zero_le _, rfl, rfl, Below.refl _ _⟩
      case round =>
        obtain ⟨k, hk, rfl, hall, hbw⟩ := hrel
        have HA := hid hall
        clear hall
        by_cases hlt : k < l.length
        · obtain ⟨x, hxk⟩ : ∃ x, l[k]? = some x := ⟨l[k], by simp [hlt]⟩
          have HX := hid hxk
          clear hxk
          obtain ⟨b, off, rfl, hb, ⟨pa, pc, c0, hrp⟩, qa, qc, c1, hrq⟩ := HR.out.2 k x HX.out
          have HP := hid hrp
          have HQ := hid hrq
          have hlp := hrp.1
          have hlq := hrq.1
          have d0 := cell_to c0 hbw
          have d1 := cell_to c1 hbw
          by_cases hm : ¬ (x.peers.length : Int) ≤ 2
          · have HG := hid (rulOk_many x (Or.inl hm))
            clear hrp hrq
            go_wp2
            go_ret
            exact ⟨ret_bool (by rw [all_false HX.out HG.out]), hbw⟩
          have hm := Decidable.not_not.1 hm
          by_cases hn : ¬ (x.ports.length : Int) ≤ 2
          · have HG := hid (rulOk_many x (Or.inr hn))
            clear hrp hrq
            go_wp2
            go_ret
            exact ⟨ret_bool (by rw [all_false HX.out HG.out]), hbw⟩
          have hn := Decidable.not_not.1 hn
          have HG := hid (rulOk_split x hm hn)
          clear hrp hrq
          obtain ⟨wa, hwa⟩ : ∃ wa, wa = wr := ⟨_, rfl⟩
          subst hwa
          go_wp2
          go_loopw [6] (fun i wr => ∃ j : Nat, j ≤ x.peers.length ∧ i = .int .i64 j ∧ (x.peers.take j).all peerOk = true ∧ Below wa.heap.size wa wr) (fun i _ => x.peers.length - (intOf i).toNat)
          case atStart => exact ⟨0, Nat.zero_le _, rfl, rfl, Below.refl _ _⟩
          case round =>
            obtain ⟨j, hj, rfl, hall, hbv⟩ := hrel
            have HB := hid hall
            clear hall
            have hC : Below w.heap.size w wr := Ext.trans hbw hbv
            have e0 := cell_to d0 hbv
            have e1 := cell_to d1 hbv
            by_cases hlt2 : j < x.peers.length
            · obtain ⟨y, hyk⟩ : ∃ y, x.peers[j]? = some y := ⟨x.peers[j], by simp [hlt2]⟩
              have HY := hid hyk
              clear hyk
              obtain ⟨b2, off2, rfl, hb2, f0, f1, f2, f3, f4, f5, ea, ec, f6, hre⟩ := HP.out.2 j y HY.out
              have g0 := cell_to f0 hC
              have g1 := cell_to f1 hC
              have g2 := cell_to f2 hC
              have g3 := cell_to f3 hC
              have g4 := cell_to f4 hC
              have g5 := cell_to f5 hC
              have g6 := cell_to f6 hC
              have HE := hid hre
              clear f0 f1 f2 f3 f4 f5 f6 hre
              cases hy : peerOk y
              · go_wp2_with (go_at_call 166; refine (refPeer_any y _ _ _ (rdBlks.to HE.out (by repeat (first | exact Below.refl _ _ | assumption | apply Ext.alloc | apply Ext.drewN | apply Ext.drew | refine Ext.trans ?_ (by assumption))))).mono ?_; rintro e w1 ⟨rfl, hb1⟩; obtain ⟨hc1, hf1⟩ := bcell hb1; have hz1 := hb_lt hb1)
                go_ret
                exact ⟨ret_bool (by rw [all_false HX.out (by rw [HG.out, all_false HY.out hy]; rfl)]), Ext.trans hC hb1⟩
              · go_wp2_with (go_at_call 166; refine (refPeer_any y _ _ _ (rdBlks.to HE.out (by repeat (first | exact Below.refl _ _ | assumption | apply Ext.alloc | apply Ext.drewN | apply Ext.drew | refine Ext.trans ?_ (by assumption))))).mono ?_; rintro e w1 ⟨rfl, hb1⟩; obtain ⟨hc1, hf1⟩ := bcell hb1; have hz1 := hb_lt hb1)
                exact ⟨⟨j + 1, by omega, by go_num, take_all HY.out HB.out hy, Ext.trans hbv hb1⟩, by simp [intOf]; omega⟩
            · have HB2 := hid (show x.peers.all peerOk = true by have := HB.out; rwa [List.take_of_length_le (by omega)] at this)
              obtain ⟨wb, hwb⟩ : ∃ wb, wb = wr := ⟨_, rfl⟩
              subst hwb
              go_wp2
              go_loopw [8] (fun i wr => ∃ t : Nat, t ≤ x.ports.length ∧ i = .int .i64 t ∧ (x.ports.take t).all prtOk = true ∧ Below wb.heap.size wb wr) (fun i _ => x.ports.length - (intOf i).toNat)
              case atStart => exact ⟨0, Nat.zero_le _, rfl, rfl, Below.refl _ _⟩
              case round =>
                obtain ⟨t, ht, rfl, hall, hbu⟩ := hrel
                have HD := hid hall
                clear hall
                have hD : Below w.heap.size w wr := Ext.trans hC hbu
                have s1 := cell_to e1 hbu
                by_cases hlt3 : t < x.ports.length
                · obtain ⟨y, hyk⟩ : ∃ y, x.ports[t]? = some y := ⟨x.ports[t], by simp [hlt3]⟩
                  have HY := hid hyk
                  clear hyk
                  obtain ⟨b2, off2, rfl, hb2, f0, f1, f2⟩ := HQ.out.2 t y HY.out
                  have g0 := cell_to f0 hD
                  have g1 := cell_to f1 hD
                  have g2 := cell_to f2 hD
                  clear f0 f1 f2
                  cases hy : prtOk y
                  · go_wp2_with (go_at_call 143; refine (refPort_any y _).mono ?_; rintro e w1 ⟨rfl, hb1⟩; obtain ⟨hc1, hf1⟩ := bcell hb1; have hz1 := hb_lt hb1)
                    go_ret
                    exact ⟨ret_bool (by rw [all_false HX.out (by rw [HG.out, HB2.out, all_false HY.out hy]; rfl)]), Ext.trans hD hb1⟩
                  · go_wp2_with (go_at_call 143; refine (refPort_any y _).mono ?_; rintro e w1 ⟨rfl, hb1⟩; obtain ⟨hc1, hf1⟩ := bcell hb1; have hz1 := hb_lt hb1)
                    exact ⟨⟨t + 1, by omega, by go_num, take_all HY.out HD.out hy, Ext.trans hbu hb1⟩, by simp [intOf]; omega⟩
                · have HD2 := hid (show x.ports.all prtOk = true by have := HD.out; rwa [List.take_of_length_le (by omega)] at this)
                  go_wp2
                  exact ⟨⟨k + 1, by omega, by go_num, take_all HX.out HA.out (by rw [HG.out, HB2.out, HD2.out]; rfl), hD⟩, by simp [intOf]; omega⟩
        · go_wp2
          go_ret
          have := HA.out
          rw [List.take_of_length_le (by omega)] at this
          exact ⟨ret_bool (by rw [this]), hbw⟩
  refine key.mono ?_
  rintro e w' ⟨rfl, hb⟩
  exact ⟨ret_bool (by rw [HF.out]), hb⟩
end Go.Proofs.YtmkjlhplgcifiaaGreat
