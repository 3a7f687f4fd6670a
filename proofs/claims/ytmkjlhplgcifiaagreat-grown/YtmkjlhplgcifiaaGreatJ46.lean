/-
  Pure: a policy without rules allows nothing more; a rule more forbids nothing.
-/
import Derived.Test.YtmkjlhplgcifiaaGreatJ45
namespace Go.Proofs.YtmkjlhplgcifiaaGreat
open Go.ChangeShapes Go.WideShapes Go.ChangeAt Go.RowKit
attribute [local simp] World.cell?_grow
attribute [local go_sem] World.cell?_grow
attribute [local simp] World.cell?_alloc_there
attribute [local go_sem] World.cell?_alloc_there
attribute [local go_sem] eqg_blk std_blk eqg_pod std_pod eqg_sel std_sel eqg_prt std_prt
attribute [local go_sem ↓] eql_blk eql_sel neq_sel eql_prt eql_pod
attribute [local go_sem ↓] met_in1 met_in2 met_re1 met_re2
attribute [local go_sem ↓] met_has1 met_has2
attribute [local go_sem ↓] met_bl1 met_bl2
attribute [local go_sem] eqg_row std_row
attribute [local go_sem ↓] neq_row
set_option linter.unusedVariables false
set_option linter.unusedSimpArgs false
def lonePol (sp : Int) : DPol := ⟨sp, 0, 0, 3, [], []⟩
theorem lonePol_ok {sp : Int} (h0 : 0 ≤ sp) (h3 : sp ≤ 3) : polOk (lonePol sp) = true := by
  simp [polOk, lonePol, btw, selOk, rulesOk, few, h0, h3]
theorem lone_less {c : DClu} {sp way : Int} {k : DPkt} {near far : Int} (h : may ⟨c.pods, c.pols ++ [lonePol sp]⟩ way k near far = true) : may c way k near far = true := by
  unfold may at *
  simp only at h
  cases hq : podAt c.pods near with
  | none => rfl
  | some p =>
    rw [hq] at h
    have e : ∀ far, letsGo c.pods way k far (lonePol sp) = false := fun far => by simp [letsGo, rulesOf, lonePol]
    simp only [List.all_append, List.any_append, List.any_cons, List.any_nil, e, Bool.and_false, Bool.or_false, Bool.or_eq_true, Bool.and_eq_true] at h ⊢
    rcases h with h | h
    · exact .inl h.1
    · exact .inr h
/-- a policy that applies where the elder one did, and lets go what that one let go -/
theorem more_may {c : DClu} {i : Nat} {y y' : DPol} (hi : c.pols[i]? = some y) (ha : ∀ way p, applies way p y' = applies way p y) (hl : ∀ way k far, letsGo c.pods way k far y = true → letsGo c.pods way k far y' = true) {way : Int} {k : DPkt} {near far : Int} (h : may c way k near far = true) : may ⟨c.pods, c.pols.set i y'⟩ way k near far = true := by
  unfold may at *
  simp only
  cases hp : podAt c.pods near with
  | none => rfl
  | some p =>
    rw [hp] at h
    simp only [Bool.or_eq_true, List.all_eq_true, List.any_eq_true] at h ⊢
    rcases h with h | ⟨q, hq, h⟩
    · refine .inl fun q hq => ?_
      rcases List.mem_or_eq_of_mem_set hq with hq | rfl
      · exact h q hq
      · rw [ha]; exact h y (List.mem_of_getElem? hi)
    · refine .inr ?_
      obtain ⟨j, hj⟩ := List.mem_iff_getElem?.1 hq
      by_cases e : i = j
      · subst e
        rw [hi] at hj
        cases hj
        refine ⟨y', List.mem_iff_getElem?.2 ⟨i, ?_⟩, ?_⟩
        · rw [List.getElem?_set_self (List.getElem?_eq_some_iff.1 hi).1]
        · rw [Bool.and_eq_true] at h ⊢
          exact ⟨by rw [ha]; exact h.1, hl _ _ _ h.2⟩
      · exact ⟨q, List.mem_iff_getElem?.2 ⟨j, by rw [List.getElem?_set_ne e]; exact hj⟩, h⟩
theorem set_right {c : DClu} {i : Nat} {y' : DPol} (h : (right c).1 = 0) (hy : polOk y' = true) : right ⟨c.pods, c.pols.set i y'⟩ = (0, 0) := by
  obtain ⟨l1, l2⟩ := right_lens h
  have hc := right_zero h
  refine right_of_ok ⟨hc.1, fun q hq => ?_⟩ l1 (by simpa using l2)
  rcases List.mem_or_eq_of_mem_set hq with hq | rfl
  · exact hc.2 q hq
  · exact hy
end Go.Proofs.YtmkjlhplgcifiaaGreat
