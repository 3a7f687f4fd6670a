/-
  The little cluster.
-/
import Derived.Test.YtmkjlhplgcifiaaL4
import Derived.Test.YtmkjlhplgcifiaaL7
namespace Go.Proofs.Ytmkjlhplgcifiaa
open Go.ChangeShapes Go.WideShapes Go.ChangeAt Go.RowKit
attribute [local simp] World.cell?_grow
attribute [local go_sem] World.cell?_grow
attribute [local simp] World.cell?_alloc_there
attribute [local go_sem] World.cell?_alloc_there
attribute [local go_sem] eqg_blk std_blk eqg_pod std_pod eqg_sel std_sel eqg_prt std_prt
attribute [local go_sem ↓] eql_blk eql_sel neq_sel eql_prt eql_pod
attribute [local go_sem ↓] met_in1 met_in2 met_re1 met_re2
set_option linter.unusedVariables false
set_option linter.unusedSimpArgs false

def litClu : DClu := ⟨[⟨0, 5, 0, 1⟩, ⟨1, 6, 0, 2⟩], [⟨0, 2, 0, 2, [], [⟨[⟨1, 1, 0, 0, 0, 0, []⟩], [⟨1, 80, 90⟩]⟩]⟩]⟩

theorem rd_nil {α : Type} (B : Nat) (w : World) (sz bytes : Nat) (E : Nat → World → Nat → Nat → α → Prop) (a : Option Addr) : RdSl B w sz bytes E a ([] : List α) := ⟨by simp, fun i x hx => by simp at hx⟩
theorem rd_one {α : Type} {B : Nat} {w : World} {sz bytes : Nat} {E : Nat → World → Nat → Nat → α → Prop} {b off : Nat} {x : α} (hy : bytes ≤ 140737488351232) (hb : b < B) (h : E B w b off x) : RdSl B w sz bytes E (some ⟨b, off, none⟩) [x] := by
  refine ⟨by simpa using hy, fun i y hy' => ?_⟩
  cases i with
  | zero =>
    cases hy'
    exact ⟨b, off, rfl, hb, by rw [Nat.zero_mul, Nat.add_zero]; exact h⟩
  | succ i => simp at hy'
theorem rd_two {α : Type} {B : Nat} {w : World} {sz bytes : Nat} {E : Nat → World → Nat → Nat → α → Prop} {b off : Nat} {x y : α} (hy : 2 * bytes ≤ 140737488351232) (hb : b < B) (h : E B w b off x) (h2 : E B w b (off + sz) y) : RdSl B w sz bytes E (some ⟨b, off, none⟩) [x, y] := by
  refine ⟨by simpa using hy, fun i z hz => ?_⟩
  cases i with
  | zero =>
    cases hz
    exact ⟨b, off, rfl, hb, by rw [Nat.zero_mul, Nat.add_zero]; exact h⟩
  | succ i =>
    cases i with
    | zero =>
      cases hz
      exact ⟨b, off, rfl, hb, by rw [Nat.zero_add, Nat.one_mul]; exact h2⟩
    | succ i => simp at hz

set_option maxRecDepth 100000 in
set_option maxHeartbeats 4000000 in
theorem little_any (w : World) :
    Calls Try.prog 6 #[] w fun e w' => ∃ pa qa, e = .returned (.agg #[.slice pa 2 2, .slice qa 1 1]) ∧ rdPods w'.heap.size w' pa litClu.pods ∧ rdPols w'.heap.size w' qa litClu.pols ∧ Below w.heap.size w w' := by
  go_enter Try.func6, Try.ntmps6
  go_wp2
  generalize hW : ((((((((w.alloc (Obj.cells #[.slice (some ⟨w.heap.size + 1 + 1 + 1 + 1 + 1 + 1, 0, none⟩) 2 2, .slice (some ⟨w.heap.size + 1 + 1 + 1 + 1 + 1 + 1 + 1, 0, none⟩) 1 1] 26)).alloc (Obj.cells #[.int .i64 1, .int .i64 1, .int .i64 0, .int .i64 0, .int .i64 0, .int .i64 0, .slice none 0 0] 47)).alloc (Obj.cells #[.int .i64 1, .int .i64 80, .int .i64 90] 50)).alloc (Obj.cells #[.slice (some ⟨w.heap.size + 1, 0, none⟩) 1 1, .slice (some ⟨w.heap.size + 1 + 1, 0, none⟩) 1 1] 53)).alloc (Obj.cells #[.slice (some ⟨w.heap.size + 1, 0, none⟩) 1 1, .slice (some ⟨w.heap.size + 1 + 1, 0, none⟩) 1 1] 53)).alloc (Obj.cells #[.int .i64 0, .int .i64 2, .int .i64 0, .int .i64 2, .slice none 0 0, .slice (some ⟨w.heap.size + 1 + 1 + 1 + 1, 0, none⟩) 1 1] 37)).alloc (Obj.cells #[.int .i64 0, .int .i64 5, .int .i64 0, .int .i64 1, .int .i64 1, .int .i64 6, .int .i64 0, .int .i64 2] 32)).alloc (Obj.cells #[.int .i64 0, .int .i64 2, .int .i64 0, .int .i64 2, .slice none 0 0, .slice (some ⟨w.heap.size + 1 + 1 + 1 + 1, 0, none⟩) 1 1] 37)) = W
  have hs : W.heap.size = w.heap.size + 8 := by rw [← hW]; simp
  have HB : Below w.heap.size w W := by rw [← hW]; exact (by repeat (first | exact Below.refl _ _ | assumption | apply Ext.alloc | apply Ext.drewN | apply Ext.drew | refine Ext.trans ?_ (by assumption)))
  have p0 : W.cell? ⟨w.heap.size + 1 + 1 + 1 + 1 + 1 + 1, 0, none⟩ = some (.int .i64 0) := by rw [← hW]; simp [go_sem]
  have p1 : W.cell? ⟨w.heap.size + 1 + 1 + 1 + 1 + 1 + 1, 1, none⟩ = some (.int .i64 5) := by rw [← hW]; simp [go_sem]
  have p2 : W.cell? ⟨w.heap.size + 1 + 1 + 1 + 1 + 1 + 1, 2, none⟩ = some (.int .i64 0) := by rw [← hW]; simp [go_sem]
  have p3 : W.cell? ⟨w.heap.size + 1 + 1 + 1 + 1 + 1 + 1, 3, none⟩ = some (.int .i64 1) := by rw [← hW]; simp [go_sem]
  have p4 : W.cell? ⟨w.heap.size + 1 + 1 + 1 + 1 + 1 + 1, 4, none⟩ = some (.int .i64 1) := by rw [← hW]; simp [go_sem]
  have p5 : W.cell? ⟨w.heap.size + 1 + 1 + 1 + 1 + 1 + 1, 5, none⟩ = some (.int .i64 6) := by rw [← hW]; simp [go_sem]
  have p6 : W.cell? ⟨w.heap.size + 1 + 1 + 1 + 1 + 1 + 1, 6, none⟩ = some (.int .i64 0) := by rw [← hW]; simp [go_sem]
  have p7 : W.cell? ⟨w.heap.size + 1 + 1 + 1 + 1 + 1 + 1, 7, none⟩ = some (.int .i64 2) := by rw [← hW]; simp [go_sem]
  have q0 : W.cell? ⟨w.heap.size + 1 + 1 + 1 + 1 + 1 + 1 + 1, 0, none⟩ = some (.int .i64 0) := by rw [← hW]; simp [go_sem]
  have q1 : W.cell? ⟨w.heap.size + 1 + 1 + 1 + 1 + 1 + 1 + 1, 1, none⟩ = some (.int .i64 2) := by rw [← hW]; simp [go_sem]
  have q2 : W.cell? ⟨w.heap.size + 1 + 1 + 1 + 1 + 1 + 1 + 1, 2, none⟩ = some (.int .i64 0) := by rw [← hW]; simp [go_sem]
  have q3 : W.cell? ⟨w.heap.size + 1 + 1 + 1 + 1 + 1 + 1 + 1, 3, none⟩ = some (.int .i64 2) := by rw [← hW]; simp [go_sem]
  have q4 : W.cell? ⟨w.heap.size + 1 + 1 + 1 + 1 + 1 + 1 + 1, 4, none⟩ = some (.slice none 0 0) := by rw [← hW]; simp [go_sem]
  have q5 : W.cell? ⟨w.heap.size + 1 + 1 + 1 + 1 + 1 + 1 + 1, 5, none⟩ = some (.slice (some ⟨w.heap.size + 1 + 1 + 1 + 1, 0, none⟩) 1 1) := by rw [← hW]; simp [go_sem]
  have r0 : W.cell? ⟨w.heap.size + 1 + 1 + 1 + 1, 0, none⟩ = some (.slice (some ⟨w.heap.size + 1, 0, none⟩) 1 1) := by rw [← hW]; simp [go_sem]
  have r1 : W.cell? ⟨w.heap.size + 1 + 1 + 1 + 1, 1, none⟩ = some (.slice (some ⟨w.heap.size + 1 + 1, 0, none⟩) 1 1) := by rw [← hW]; simp [go_sem]
  have e0 : W.cell? ⟨w.heap.size + 1, 0, none⟩ = some (.int .i64 1) := by rw [← hW]; simp [go_sem]
  have e1 : W.cell? ⟨w.heap.size + 1, 1, none⟩ = some (.int .i64 1) := by rw [← hW]; simp [go_sem]
  have e2 : W.cell? ⟨w.heap.size + 1, 2, none⟩ = some (.int .i64 0) := by rw [← hW]; simp [go_sem]
  have e3 : W.cell? ⟨w.heap.size + 1, 3, none⟩ = some (.int .i64 0) := by rw [← hW]; simp [go_sem]
  have e4 : W.cell? ⟨w.heap.size + 1, 4, none⟩ = some (.int .i64 0) := by rw [← hW]; simp [go_sem]
  have e5 : W.cell? ⟨w.heap.size + 1, 5, none⟩ = some (.int .i64 0) := by rw [← hW]; simp [go_sem]
  have e6 : W.cell? ⟨w.heap.size + 1, 6, none⟩ = some (.slice none 0 0) := by rw [← hW]; simp [go_sem]
  have t0 : W.cell? ⟨w.heap.size + 1 + 1, 0, none⟩ = some (.int .i64 1) := by rw [← hW]; simp [go_sem]
  have t1 : W.cell? ⟨w.heap.size + 1 + 1, 1, none⟩ = some (.int .i64 80) := by rw [← hW]; simp [go_sem]
  have t2 : W.cell? ⟨w.heap.size + 1 + 1, 2, none⟩ = some (.int .i64 90) := by rw [← hW]; simp [go_sem]
  have c0 : W.cell? ⟨w.heap.size, 0, none⟩ = some (.slice (some ⟨w.heap.size + 1 + 1 + 1 + 1 + 1 + 1, 0, none⟩) 2 2) := by rw [← hW]; simp [go_sem]
  have c1 : W.cell? ⟨w.heap.size, 1, none⟩ = some (.slice (some ⟨w.heap.size + 1 + 1 + 1 + 1 + 1 + 1 + 1, 0, none⟩) 1 1) := by rw [← hW]; simp [go_sem]
  clear hW
  refine bodyPost_ret (v := .agg #[.slice (some ⟨w.heap.size + 1 + 1 + 1 + 1 + 1 + 1, 0, none⟩) 2 2, .slice (some ⟨w.heap.size + 1 + 1 + 1 + 1 + 1 + 1 + 1, 0, none⟩) 1 1]) (by simp [results, Try.results6, go_sem, c0, c1]) rfl ⟨_, _, rfl, ?_, ?_, HB⟩
  · exact rd_two (by decide) (by omega) ⟨p0, p1, p2, p3⟩ ⟨p4, p5, p6, p7⟩
  · exact rd_one (by decide) (by omega) ⟨q0, q1, q2, q3, ⟨none, 0, q4, rd_nil _ _ _ _ _ _⟩, _, _, q5, rd_one (by decide) (by omega) ⟨⟨_, _, r0, rd_one (by decide) (by omega) ⟨e0, e1, e2, e3, e4, e5, none, 0, e6, rd_nil _ _ _ _ _ _⟩⟩, _, _, r1, rd_one (by decide) (by omega) ⟨t0, t1, t2⟩⟩⟩
end Go.Proofs.Ytmkjlhplgcifiaa
