/-
  palisadekeep: cluster, walked.
-/
import Derived.Test.YtmkjlhplgcifiaaGreatJ32
import Derived.Test.YtmkjlhplgcifiaaGreatJ39
import Derived.Deep.RegionHeld3
import Derived.Deep.CutRange
import Derived.Deep.CutBlock
namespace Go.Proofs.YtmkjlhplgcifiaaGreat
open Go.ChangeShapes Go.WideShapes Go.ChangeAt Go.RowKit
attribute [local simp] World.cell?_grow
attribute [local go_sem] World.cell?_grow
attribute [local simp] World.cell?_alloc_there
attribute [local go_sem] World.cell?_alloc_there
attribute [local go_sem] eqg_blk std_blk eqg_pod std_pod eqg_sel std_sel eqg_prt std_prt
attribute [local go_sem ↓] eql_blk eql_sel neq_sel eql_prt eql_pod
attribute [local go_sem ↓] met_in1 met_in2 met_re1 met_re2
attribute [local go_sem ↓] met_has1 met_has2
attribute [local go_sem ↓] met_bl1 met_bl2
attribute [local go_sem] eqg_row std_row
attribute [local go_sem ↓] neq_row
set_option linter.unusedVariables false
set_option linter.unusedSimpArgs false
theorem Up.lower {X : Type} {e : TypeId} {k : Nat} {enc : X → List Value} {N : Nat → World → X → Prop} (hN : Mono N) {base base' : Nat} {w : World} {v : Value} {ys : List X} (h : Up e k enc N base w v ys) (hb : base' ≤ base) : Up e k enc N base' w v ys := by
  obtain ⟨⟨h1, h2⟩, h3⟩ := h
  refine ⟨⟨h1, ?_⟩, fun y hy => hN _ _ _ _ y (Sub.lower hb) (Nat.le_refl _) (h3 y hy)⟩
  rcases h2 with h2 | ⟨g, cap, cur, a, b, c⟩
  · exact .inl h2
  · exact .inr ⟨g, cap, cur, a, Nat.le_trans hb b, c⟩
theorem Up.slice {X : Type} {e : TypeId} {k : Nat} {enc : X → List Value} {N : Nat → World → X → Prop} {base : Nat} {w : World} {v : Value} {ys : List X} (h : Up e k enc N base w v ys) : ∃ a c, v = .slice a ys.length c ∧ ys.length ≤ c := by
  obtain ⟨a, c, rfl, hc, _⟩ := own_slice h.1
  exact ⟨a, c, rfl, hc⟩
theorem Up.gb {X : Type} {e : TypeId} {k : Nat} {enc : X → List Value} {N : Nat → World → X → Prop} (hN : Mono N) {base q : Nat} {w w' : World} {v : Value} {ys : List X} (h : Up e k enc N base w v ys) (hg : w.grownBy w' (some q)) (hq : q < base) : Up e k enc N base w' v ys :=
  ⟨own_stay h.1 fun g hgv => hg.block g (h.lt g hgv).2 (fun e => by cases e; have := (h.lt _ hgv).1; omega),
   fun y hy => hN _ _ _ _ y (Sub.hide fun b hb hG => ⟨hG, hg.block b hb (fun e => by cases e; have := (lowOr_false.1 hG).1; omega)⟩) hg.size (h.2 y hy)⟩
theorem take4_lt {α : Type} {l : List α} {k : Nat} (h : k < (l.take 4).length) : k < l.length ∧ k < 4 ∧ (l.take 4)[k]? = l[k]? := by
  rw [List.length_take] at h
  exact ⟨by omega, by omega, by rw [List.getElem?_take, if_pos (by omega)]⟩
theorem take4_ge {α : Type} {l : List α} {k : Nat} (h : ¬ k < (l.take 4).length) : ¬ (k < l.length ∧ k < 4) := by
  rw [List.length_take] at h
  omega
end Go.Proofs.YtmkjlhplgcifiaaGreat
