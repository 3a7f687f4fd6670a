/-
  A cluster that came in, opened: what is read of it lies in memory as lists by their indices; each list's bytes are within the reach.
-/
import Derived.Test.YtmkjlhplgcifiaaP2
import Derived.Test.YtmkjlhplgcifiaaP3
import Derived.ProofKit
import Derived.SizedLaws
import Derived.Deep.Slices
import Derived.Lib.SmallJoins
namespace Go.Proofs.Ytmkjlhplgcifiaa
open Go.ChangeShapes Go.WideShapes Go.ChangeAt Go.RowKit
attribute [local simp] World.cell?_grow
attribute [local go_sem] World.cell?_grow
attribute [local simp] World.cell?_alloc_there
attribute [local go_sem] World.cell?_alloc_there
attribute [local go_sem] eqg_blk std_blk eqg_pod std_pod eqg_sel std_sel eqg_prt std_prt
attribute [local go_sem ↓] eql_blk eql_sel neq_sel eql_prt eql_pod
attribute [local go_sem ↓] met_in1 met_in2 met_re1 met_re2
attribute [local go_sem ↓] met_has1 met_has2
set_option linter.unusedVariables false
set_option linter.unusedSimpArgs false

theorem reach_eq : reachBytes = 140737488351232 := rfl
theorem weightsAll_of {H : Type} {P : Program} {e : TypeId} : ∀ {l : List (DataW H)} {d : DataW H}, d ∈ l → ∀ n ∈ d.weights P e, n ∈ DataW.weightsAll P e l
  | d' :: r, d, hd, n, hn => by
    simp only [DataW.weightsAll, List.mem_append]
    rcases List.mem_cons.1 hd with rfl | h
    · exact Or.inl hn
    · exact Or.inr (weightsAll_of h n hn)
  | [], d, hd, _, _ => by cases hd
theorem list_of {α : Type} (Q : Nat → α → Prop) : ∀ n, (∀ i, i < n → ∃ x, Q i x) → ∃ l : List α, l.length = n ∧ ∀ i x, l[i]? = some x → Q i x
  | 0, _ => ⟨[], rfl, fun i x h => by simp at h⟩
  | n + 1, h => by
    obtain ⟨l, hl, hq⟩ := list_of Q n fun i hi => h i (by omega)
    obtain ⟨x, hx⟩ := h n (by omega)
    refine ⟨l ++ [x], by simp [hl], fun i y hy => ?_⟩
    by_cases hi : i < l.length
    · rw [List.getElem?_append_left hi] at hy
      exact hq i y hy
    · rw [List.getElem?_append_right (by omega)] at hy
      have h0 : i - l.length = 0 := by
        by_cases h0 : i - l.length = 0
        · exact h0
        · rw [List.getElem?_eq_none (by simp; omega)] at hy; cases hy
      rw [h0] at hy
      simp at hy
      subst hy
      have : i = n := by omega
      subst this
      exact hx
theorem list_2 {α : Type} {l : List α} (h : l.length = 2) : ∃ v0 v1, l = [v0, v1] := by
  match l, h with
  | [v0, v1], _ => exact ⟨v0, v1, rfl⟩
theorem list_3 {α : Type} {l : List α} (h : l.length = 3) : ∃ v0 v1 v2, l = [v0, v1, v2] := by
  match l, h with
  | [v0, v1, v2], _ => exact ⟨v0, v1, v2, rfl⟩
theorem list_4 {α : Type} {l : List α} (h : l.length = 4) : ∃ v0 v1 v2 v3, l = [v0, v1, v2, v3] := by
  match l, h with
  | [v0, v1, v2, v3], _ => exact ⟨v0, v1, v2, v3, rfl⟩
theorem list_6 {α : Type} {l : List α} (h : l.length = 6) : ∃ v0 v1 v2 v3 v4 v5, l = [v0, v1, v2, v3, v4, v5] := by
  match l, h with
  | [v0, v1, v2, v3, v4, v5], _ => exact ⟨v0, v1, v2, v3, v4, v5, rfl⟩
theorem list_7 {α : Type} {l : List α} (h : l.length = 7) : ∃ v0 v1 v2 v3 v4 v5 v6, l = [v0, v1, v2, v3, v4, v5, v6] := by
  match l, h with
  | [v0, v1, v2, v3, v4, v5, v6], _ => exact ⟨v0, v1, v2, v3, v4, v5, v6, rfl⟩
theorem blk_lt {w : World} {a : Addr} {v : Value} (h : w.cell? a = some v) : a.block < w.heap.size := by
  by_cases hb : a.block < w.heap.size
  · exact hb
  · unfold World.cell? at h
    rw [Array.getElem?_eq_none (by omega)] at h
    cases h

section
variable {H : Type} {enc : TypeId × Value → H} {w : World} {base : Nat} {spare : Nat → Bool} {held : Bool}
/-- what an element's reading gives: its cells -/
abbrev OpenE (enc : TypeId × Value → H) (w : World) (base : Nat) (spare : Nat → Bool) (held : Bool) {α : Type} (e : TypeId) (sz : Nat) (E : Nat → World → Nat → Nat → α → Prop) : Prop :=
  ∀ (b o fuel : Nat) (cs : List Value) (y : DataW H × List MemPlace), (∀ j, j < sz → w.cell? ⟨b, o + j, none⟩ = cs[j]?) → DataW.trod enc Try.prog w base spare held fuel e cs = some y → (∀ n ∈ y.1.weights Try.prog e, n ≤ reachBytes) → ∃ x : α, E w.heap.size w b o x

theorem open_list {α : Type} {S e : TypeId} {sz bytes : Nat} {E : Nat → World → Nat → Nat → α → Prop} (hS : Try.prog.underlying S = some (.slice e)) (hC : Try.prog.cellsOf e = sz) (hY : Try.prog.bytesOf e = bytes) (hp : 0 < sz)
    (hE : OpenE enc w base spare held e sz E) {fuel : Nat} {cs : List Value} {x : DataW H × List MemPlace} (h : DataW.trod enc Try.prog w base spare held fuel S cs = some x) (hw : ∀ n ∈ x.1.weights Try.prog S, n ≤ reachBytes) :
    ∃ (a : Option Addr) (l : List α) (c : Nat), cs = [.slice a l.length c] ∧ RdSl w.heap.size w sz bytes E a l := by
  rcases Go.Deep.open_slice hS h with ⟨rfl, _⟩ | ⟨a, len, cap, m, n, D, Pl, rfl, hb, hl, hm, hmm, rfl, hx⟩
  · exact ⟨none, [], 0, rfl, rd_nil _ _ _ _ _ _⟩
  have hlm : len ≤ m := by rw [hmm]; split <;> omega
  have hby : len * bytes ≤ 140737488351232 := by
    have h1 := hw ((len + (m - len)) * bytes) (by simp [DataW.weights, hS, hY])
    rw [reach_eq] at h1
    exact Nat.le_trans (Nat.mul_le_mul_right _ (Nat.le_add_right _ _)) h1
  rw [hC] at hx
  by_cases h0 : len = 0
  · subst h0
    exact ⟨some a, [], cap, rfl, rd_nil _ _ _ _ _ _⟩
  have hcell : ∀ i, i < len → ∃ cs', (∀ j, j < sz → w.cell? (a.add (i * sz + j)) = cs'[j]?) ∧ cs'.length = sz ∧ DataW.trod enc Try.prog w base spare held n e cs' = some (D i, Pl i) := fun i hi => by
    obtain ⟨cs', k1, k2⟩ := hx i (by omega)
    obtain ⟨_, k3, k4⟩ := World.cells?_some k1
    exact ⟨cs', fun j hj => by rw [← Go.Deep.add_add]; exact k4 j hj, k3, k2⟩
  have hsp : a.spot = none ∧ a.block < w.heap.size := by
    obtain ⟨cs', k1, k2, _⟩ := hcell 0 (by omega)
    have k3 := k1 0 hp
    rw [List.getElem?_eq_getElem (by omega)] at k3
    have e0 : a.add (0 * sz + 0) = a := by simp [Addr.add]
    rw [e0] at k3
    exact ⟨World.cell?_spot k3, blk_lt k3⟩
  obtain ⟨b, off, sp⟩ := a
  obtain ⟨hs1, hs2⟩ := hsp
  simp only at hs1 hs2
  subst hs1
  obtain ⟨l, hll, hq⟩ := list_of (fun i x => E w.heap.size w b (off + i * sz) x) len fun i hi => by
    obtain ⟨cs', k1, k2, k3⟩ := hcell i hi
    refine hE b (off + i * sz) n cs' (D i, Pl i) (fun j hj => ?_) k3 (fun k hk => hw k ?_)
    · rw [Nat.add_assoc, ← add_plain]
      exact k1 j hj
    · have hmem : D i ∈ (List.range len).map D := List.mem_map.2 ⟨i, List.mem_range.2 hi, rfl⟩
      simp only [DataW.weights, hS, List.mem_cons, List.mem_append]
      exact Or.inr (Or.inl (weightsAll_of hmem k hk))
  exact ⟨some ⟨b, off, none⟩, l, cap, by rw [hll], by rw [hll]; exact hby, fun i x hx' => ⟨b, off, rfl, hs2, hq i x hx'⟩⟩

theorem open_st {t : TypeId} {fs : Array Field} {fuel : Nat} {cs : List Value} {y : DataW H × List MemPlace} (ht : Try.prog.underlying t = some (.struct fs)) (h : DataW.trod enc Try.prog w base spare held fuel t cs = some y) (hw : ∀ n ∈ y.1.weights Try.prog t, n ≤ reachBytes) :
    cs.length = Try.prog.cellsOf t ∧ ∃ n, ∀ (i : Nat) (f : Field), fs[i]? = some f → ∃ z, DataW.trod enc Try.prog w base spare held n f.type ((cs.drop f.offset).take (Try.prog.cellsOf f.type)) = some z ∧ ∀ k ∈ z.1.weights Try.prog f.type, k ≤ reachBytes := by
  obtain ⟨xs, n, _, rfl, hl, hlen, hf⟩ := DataW.trod_struct ht h
  refine ⟨hl, n, fun i f hfi => ?_⟩
  have hi : i < xs.length := by rw [hlen]; exact (Array.getElem?_eq_some_iff.1 hfi).1
  have h1 := hf i f hfi
  rw [List.getElem?_eq_getElem hi] at h1
  refine ⟨_, h1, fun k hk => hw k ?_⟩
  simp only [DataW.weights, ht]
  exact DataW.weights_mem_each (j := i) (t := f.type) (d := (xs[i]).1) (by simp [hfi]) (by simp [hi]) k hk
end
theorem cells_int : Try.prog.cellsOf 3 = 1 := by kernel_rfl
theorem cells_blk : Try.prog.cellsOf 44 = 2 := by kernel_rfl
theorem bytes_blk : Try.prog.bytesOf 44 = 16 := by kernel_rfl
theorem cells_pod : Try.prog.cellsOf 32 = 4 := by kernel_rfl
theorem bytes_pod : Try.prog.bytesOf 32 = 32 := by kernel_rfl
theorem cells_prt : Try.prog.cellsOf 50 = 3 := by kernel_rfl
theorem bytes_prt : Try.prog.bytesOf 50 = 24 := by kernel_rfl
theorem cells_peer : Try.prog.cellsOf 47 = 7 := by kernel_rfl
theorem bytes_peer : Try.prog.bytesOf 47 = 72 := by kernel_rfl
theorem cells_rule : Try.prog.cellsOf 53 = 2 := by kernel_rfl
theorem bytes_rule : Try.prog.bytesOf 53 = 48 := by kernel_rfl
theorem cells_pol : Try.prog.cellsOf 37 = 6 := by kernel_rfl
theorem bytes_pol : Try.prog.bytesOf 37 = 80 := by kernel_rfl
theorem cells_sel : Try.prog.cellsOf 34 = 2 := by kernel_rfl
theorem bytes_sel : Try.prog.bytesOf 34 = 16 := by kernel_rfl
theorem cells_clu : Try.prog.cellsOf 26 = 2 := by kernel_rfl
theorem bytes_clu : Try.prog.bytesOf 26 = 48 := by kernel_rfl
theorem cells_pkt : Try.prog.cellsOf 28 = 4 := by kernel_rfl
theorem bytes_pkt : Try.prog.bytesOf 28 = 32 := by kernel_rfl
theorem cells_sblk : Try.prog.cellsOf 45 = 1 := by kernel_rfl
theorem cells_sprt : Try.prog.cellsOf 51 = 1 := by kernel_rfl
theorem cells_speer : Try.prog.cellsOf 48 = 1 := by kernel_rfl
theorem cells_srule : Try.prog.cellsOf 35 = 1 := by kernel_rfl
section
variable {H : Type} {enc : TypeId × Value → H} {w : World} {base : Nat} {spare : Nat → Bool} {held : Bool}
theorem open_it {fuel : Nat} {v : Value} {y : DataW H × List MemPlace} (h : DataW.trod enc Try.prog w base spare held fuel 3 [v] = some y) : ∃ n, v = .int .i64 n := by
  obtain ⟨n, e, _⟩ := DataW.trod_int Try.underlying3 h
  exact ⟨n, by simpa using e⟩
theorem open_two {t : TypeId} {fuel : Nat} {v0 v1 : Value} {y : DataW H × List MemPlace} {f0 f1 : Field} (ht : Try.prog.underlying t = some (.struct #[f0, f1])) (e0 : f0.type = 3) (e1 : f1.type = 3) (o0 : f0.offset = 0) (o1 : f1.offset = 1) (h : DataW.trod enc Try.prog w base spare held fuel t [v0, v1] = some y) (hw : ∀ n ∈ y.1.weights Try.prog t, n ≤ reachBytes) : ∃ n0 n1, v0 = .int .i64 n0 ∧ v1 = .int .i64 n1 := by
  obtain ⟨_, n, hf⟩ := open_st ht h hw
  obtain ⟨z0, h0, _⟩ := hf 0 f0 rfl
  obtain ⟨z1, h1, _⟩ := hf 1 f1 rfl
  rw [e0, o0, cells_int] at h0
  rw [e1, o1, cells_int] at h1
  obtain ⟨n0, rfl⟩ := open_it h0
  obtain ⟨n1, rfl⟩ := open_it h1
  exact ⟨n0, n1, rfl, rfl⟩
theorem open_blk : OpenE enc w base spare held 44 2 eBlk := by
  intro b o fuel cs y hc h hw
  obtain ⟨hl, n, hf⟩ := open_st Try.underlying44 h hw
  rw [cells_blk] at hl
  obtain ⟨v0, v1, rfl⟩ := list_2 hl
  obtain ⟨z0, h0, g0⟩ := hf 0 _ rfl
  obtain ⟨z1, h1, g1⟩ := hf 1 _ rfl
  have k0 : DataW.trod enc Try.prog w base spare held n 3 [v0] = some z0 := by have q : DataW.trod enc Try.prog w base spare held n 3 (([v0, v1].drop 0).take (Try.prog.cellsOf 3)) = some z0 := h0; rw [cells_int] at q; exact q
  obtain ⟨x0, e0⟩ := open_it k0
  have k1 : DataW.trod enc Try.prog w base spare held n 3 [v1] = some z1 := by have q : DataW.trod enc Try.prog w base spare held n 3 (([v0, v1].drop 1).take (Try.prog.cellsOf 3)) = some z1 := h1; rw [cells_int] at q; exact q
  obtain ⟨x1, e1⟩ := open_it k1
  have q0 := hc 0 (by omega)
  have q1 := hc 1 (by omega)
  simp only [List.getElem?_cons_zero, List.getElem?_cons_succ, Nat.add_zero, e0, e1] at q0 q1
  exact ⟨⟨x0, x1⟩, q0, q1⟩
theorem open_blks {fuel : Nat} {cs : List Value} {x : DataW H × List MemPlace} (h : DataW.trod enc Try.prog w base spare held fuel 45 cs = some x) (hw : ∀ n ∈ x.1.weights Try.prog 45, n ≤ reachBytes) :
    ∃ a l c, cs = [.slice a l.length c] ∧ RdSl w.heap.size w 2 16 eBlk a l := open_list Try.underlying45 cells_blk bytes_blk (by decide) open_blk h hw
theorem open_pod : OpenE enc w base spare held 32 4 ePod := by
  intro b o fuel cs y hc h hw
  obtain ⟨hl, n, hf⟩ := open_st Try.underlying32 h hw
  rw [cells_pod] at hl
  obtain ⟨v0, v1, v2, v3, rfl⟩ := list_4 hl
  obtain ⟨z0, h0, g0⟩ := hf 0 _ rfl
  obtain ⟨z1, h1, g1⟩ := hf 1 _ rfl
  obtain ⟨z2, h2, g2⟩ := hf 2 _ rfl
  obtain ⟨z3, h3, g3⟩ := hf 3 _ rfl
  have k0 : DataW.trod enc Try.prog w base spare held n 3 [v0] = some z0 := by have q : DataW.trod enc Try.prog w base spare held n 3 (([v0, v1, v2, v3].drop 0).take (Try.prog.cellsOf 3)) = some z0 := h0; rw [cells_int] at q; exact q
  obtain ⟨x0, e0⟩ := open_it k0
  have k1 : DataW.trod enc Try.prog w base spare held n 3 [v1] = some z1 := by have q : DataW.trod enc Try.prog w base spare held n 3 (([v0, v1, v2, v3].drop 1).take (Try.prog.cellsOf 3)) = some z1 := h1; rw [cells_int] at q; exact q
  obtain ⟨x1, e1⟩ := open_it k1
  have k2 : DataW.trod enc Try.prog w base spare held n 3 [v2] = some z2 := by have q : DataW.trod enc Try.prog w base spare held n 3 (([v0, v1, v2, v3].drop 2).take (Try.prog.cellsOf 3)) = some z2 := h2; rw [cells_int] at q; exact q
  obtain ⟨x2, e2⟩ := open_it k2
  have k3 : DataW.trod enc Try.prog w base spare held n 3 [v3] = some z3 := by have q : DataW.trod enc Try.prog w base spare held n 3 (([v0, v1, v2, v3].drop 3).take (Try.prog.cellsOf 3)) = some z3 := h3; rw [cells_int] at q; exact q
  obtain ⟨x3, e3⟩ := open_it k3
  have q0 := hc 0 (by omega)
  have q1 := hc 1 (by omega)
  have q2 := hc 2 (by omega)
  have q3 := hc 3 (by omega)
  simp only [List.getElem?_cons_zero, List.getElem?_cons_succ, Nat.add_zero, e0, e1, e2, e3] at q0 q1 q2 q3
  exact ⟨⟨x0, x1, x2, x3⟩, q0, q1, q2, q3⟩
theorem open_pods {fuel : Nat} {cs : List Value} {x : DataW H × List MemPlace} (h : DataW.trod enc Try.prog w base spare held fuel 23 cs = some x) (hw : ∀ n ∈ x.1.weights Try.prog 23, n ≤ reachBytes) :
    ∃ a l c, cs = [.slice a l.length c] ∧ RdSl w.heap.size w 4 32 ePod a l := open_list Try.underlying23 cells_pod bytes_pod (by decide) open_pod h hw
theorem open_prt : OpenE enc w base spare held 50 3 ePort := by
  intro b o fuel cs y hc h hw
  obtain ⟨hl, n, hf⟩ := open_st Try.underlying50 h hw
  rw [cells_prt] at hl
  obtain ⟨v0, v1, v2, rfl⟩ := list_3 hl
  obtain ⟨z0, h0, g0⟩ := hf 0 _ rfl
  obtain ⟨z1, h1, g1⟩ := hf 1 _ rfl
  obtain ⟨z2, h2, g2⟩ := hf 2 _ rfl
  have k0 : DataW.trod enc Try.prog w base spare held n 3 [v0] = some z0 := by have q : DataW.trod enc Try.prog w base spare held n 3 (([v0, v1, v2].drop 0).take (Try.prog.cellsOf 3)) = some z0 := h0; rw [cells_int] at q; exact q
  obtain ⟨x0, e0⟩ := open_it k0
  have k1 : DataW.trod enc Try.prog w base spare held n 3 [v1] = some z1 := by have q : DataW.trod enc Try.prog w base spare held n 3 (([v0, v1, v2].drop 1).take (Try.prog.cellsOf 3)) = some z1 := h1; rw [cells_int] at q; exact q
  obtain ⟨x1, e1⟩ := open_it k1
  have k2 : DataW.trod enc Try.prog w base spare held n 3 [v2] = some z2 := by have q : DataW.trod enc Try.prog w base spare held n 3 (([v0, v1, v2].drop 2).take (Try.prog.cellsOf 3)) = some z2 := h2; rw [cells_int] at q; exact q
  obtain ⟨x2, e2⟩ := open_it k2
  have q0 := hc 0 (by omega)
  have q1 := hc 1 (by omega)
  have q2 := hc 2 (by omega)
  simp only [List.getElem?_cons_zero, List.getElem?_cons_succ, Nat.add_zero, e0, e1, e2] at q0 q1 q2
  exact ⟨⟨x0, x1, x2⟩, q0, q1, q2⟩
theorem open_prts {fuel : Nat} {cs : List Value} {x : DataW H × List MemPlace} (h : DataW.trod enc Try.prog w base spare held fuel 51 cs = some x) (hw : ∀ n ∈ x.1.weights Try.prog 51, n ≤ reachBytes) :
    ∃ a l c, cs = [.slice a l.length c] ∧ RdSl w.heap.size w 3 24 ePort a l := open_list Try.underlying51 cells_prt bytes_prt (by decide) open_prt h hw
theorem open_peer : OpenE enc w base spare held 47 7 ePeer := by
  intro b o fuel cs y hc h hw
  obtain ⟨hl, n, hf⟩ := open_st Try.underlying47 h hw
  rw [cells_peer] at hl
  obtain ⟨v0, v1, v2, v3, v4, v5, v6, rfl⟩ := list_7 hl
  obtain ⟨z0, h0, g0⟩ := hf 0 _ rfl
  obtain ⟨z1, h1, g1⟩ := hf 1 _ rfl
  obtain ⟨z2, h2, g2⟩ := hf 2 _ rfl
  obtain ⟨z3, h3, g3⟩ := hf 3 _ rfl
  obtain ⟨z4, h4, g4⟩ := hf 4 _ rfl
  have k0 : DataW.trod enc Try.prog w base spare held n 3 [v0] = some z0 := by have q : DataW.trod enc Try.prog w base spare held n 3 (([v0, v1, v2, v3, v4, v5, v6].drop 0).take (Try.prog.cellsOf 3)) = some z0 := h0; rw [cells_int] at q; exact q
  obtain ⟨x0, e0⟩ := open_it k0
  have k1 : DataW.trod enc Try.prog w base spare held n 34 [v1, v2] = some z1 := by have q : DataW.trod enc Try.prog w base spare held n 34 (([v0, v1, v2, v3, v4, v5, v6].drop 1).take (Try.prog.cellsOf 34)) = some z1 := h1; rw [cells_sel] at q; exact q
  obtain ⟨x1, x2, e1, e2⟩ := open_two Try.underlying34 rfl rfl rfl rfl k1 g1
  have k2 : DataW.trod enc Try.prog w base spare held n 3 [v3] = some z2 := by have q : DataW.trod enc Try.prog w base spare held n 3 (([v0, v1, v2, v3, v4, v5, v6].drop 3).take (Try.prog.cellsOf 3)) = some z2 := h2; rw [cells_int] at q; exact q
  obtain ⟨x3, e3⟩ := open_it k2
  have k3 : DataW.trod enc Try.prog w base spare held n 44 [v4, v5] = some z3 := by have q : DataW.trod enc Try.prog w base spare held n 44 (([v0, v1, v2, v3, v4, v5, v6].drop 4).take (Try.prog.cellsOf 44)) = some z3 := h3; rw [cells_blk] at q; exact q
  obtain ⟨x4, x5, e4, e5⟩ := open_two Try.underlying44 rfl rfl rfl rfl k3 g3
  have k4 : DataW.trod enc Try.prog w base spare held n 45 [v6] = some z4 := by have q : DataW.trod enc Try.prog w base spare held n 45 (([v0, v1, v2, v3, v4, v5, v6].drop 6).take (Try.prog.cellsOf 45)) = some z4 := h4; rw [cells_sblk] at q; exact q
  obtain ⟨a6, l6, c6, e6, r6⟩ := open_blks k4 g4
  simp only [List.cons.injEq, and_true] at e6
  have q0 := hc 0 (by omega)
  have q1 := hc 1 (by omega)
  have q2 := hc 2 (by omega)
  have q3 := hc 3 (by omega)
  have q4 := hc 4 (by omega)
  have q5 := hc 5 (by omega)
  have q6 := hc 6 (by omega)
  simp only [List.getElem?_cons_zero, List.getElem?_cons_succ, Nat.add_zero, e0, e1, e2, e3, e4, e5, e6] at q0 q1 q2 q3 q4 q5 q6
  exact ⟨⟨x0, x1, x2, x3, x4, x5, l6⟩, q0, q1, q2, q3, q4, q5, a6, c6, q6, r6⟩
theorem open_peers {fuel : Nat} {cs : List Value} {x : DataW H × List MemPlace} (h : DataW.trod enc Try.prog w base spare held fuel 48 cs = some x) (hw : ∀ n ∈ x.1.weights Try.prog 48, n ≤ reachBytes) :
    ∃ a l c, cs = [.slice a l.length c] ∧ RdSl w.heap.size w 7 72 ePeer a l := open_list Try.underlying48 cells_peer bytes_peer (by decide) open_peer h hw
theorem open_rule : OpenE enc w base spare held 53 2 eRule := by
  intro b o fuel cs y hc h hw
  obtain ⟨hl, n, hf⟩ := open_st Try.underlying53 h hw
  rw [cells_rule] at hl
  obtain ⟨v0, v1, rfl⟩ := list_2 hl
  obtain ⟨z0, h0, g0⟩ := hf 0 _ rfl
  obtain ⟨z1, h1, g1⟩ := hf 1 _ rfl
  have k0 : DataW.trod enc Try.prog w base spare held n 48 [v0] = some z0 := by have q : DataW.trod enc Try.prog w base spare held n 48 (([v0, v1].drop 0).take (Try.prog.cellsOf 48)) = some z0 := h0; rw [cells_speer] at q; exact q
  obtain ⟨a0, l0, c0, e0, r0⟩ := open_peers k0 g0
  simp only [List.cons.injEq, and_true] at e0
  have k1 : DataW.trod enc Try.prog w base spare held n 51 [v1] = some z1 := by have q : DataW.trod enc Try.prog w base spare held n 51 (([v0, v1].drop 1).take (Try.prog.cellsOf 51)) = some z1 := h1; rw [cells_sprt] at q; exact q
  obtain ⟨a1, l1, c1, e1, r1⟩ := open_prts k1 g1
  simp only [List.cons.injEq, and_true] at e1
  have q0 := hc 0 (by omega)
  have q1 := hc 1 (by omega)
  simp only [List.getElem?_cons_zero, List.getElem?_cons_succ, Nat.add_zero, e0, e1] at q0 q1
  exact ⟨⟨l0, l1⟩, ⟨a0, c0, q0, r0⟩, a1, c1, q1, r1⟩
theorem open_rules {fuel : Nat} {cs : List Value} {x : DataW H × List MemPlace} (h : DataW.trod enc Try.prog w base spare held fuel 35 cs = some x) (hw : ∀ n ∈ x.1.weights Try.prog 35, n ≤ reachBytes) :
    ∃ a l c, cs = [.slice a l.length c] ∧ RdSl w.heap.size w 2 48 eRule a l := open_list Try.underlying35 cells_rule bytes_rule (by decide) open_rule h hw
theorem open_pol : OpenE enc w base spare held 37 6 ePol := by
  intro b o fuel cs y hc h hw
  obtain ⟨hl, n, hf⟩ := open_st Try.underlying37 h hw
  rw [cells_pol] at hl
  obtain ⟨v0, v1, v2, v3, v4, v5, rfl⟩ := list_6 hl
  obtain ⟨z0, h0, g0⟩ := hf 0 _ rfl
  obtain ⟨z1, h1, g1⟩ := hf 1 _ rfl
  obtain ⟨z2, h2, g2⟩ := hf 2 _ rfl
  obtain ⟨z3, h3, g3⟩ := hf 3 _ rfl
  obtain ⟨z4, h4, g4⟩ := hf 4 _ rfl
  have k0 : DataW.trod enc Try.prog w base spare held n 3 [v0] = some z0 := by have q : DataW.trod enc Try.prog w base spare held n 3 (([v0, v1, v2, v3, v4, v5].drop 0).take (Try.prog.cellsOf 3)) = some z0 := h0; rw [cells_int] at q; exact q
  obtain ⟨x0, e0⟩ := open_it k0
  have k1 : DataW.trod enc Try.prog w base spare held n 34 [v1, v2] = some z1 := by have q : DataW.trod enc Try.prog w base spare held n 34 (([v0, v1, v2, v3, v4, v5].drop 1).take (Try.prog.cellsOf 34)) = some z1 := h1; rw [cells_sel] at q; exact q
  obtain ⟨x1, x2, e1, e2⟩ := open_two Try.underlying34 rfl rfl rfl rfl k1 g1
  have k2 : DataW.trod enc Try.prog w base spare held n 3 [v3] = some z2 := by have q : DataW.trod enc Try.prog w base spare held n 3 (([v0, v1, v2, v3, v4, v5].drop 3).take (Try.prog.cellsOf 3)) = some z2 := h2; rw [cells_int] at q; exact q
  obtain ⟨x3, e3⟩ := open_it k2
  have k3 : DataW.trod enc Try.prog w base spare held n 35 [v4] = some z3 := by have q : DataW.trod enc Try.prog w base spare held n 35 (([v0, v1, v2, v3, v4, v5].drop 4).take (Try.prog.cellsOf 35)) = some z3 := h3; rw [cells_srule] at q; exact q
  obtain ⟨a4, l4, c4, e4, r4⟩ := open_rules k3 g3
  simp only [List.cons.injEq, and_true] at e4
  have k4 : DataW.trod enc Try.prog w base spare held n 35 [v5] = some z4 := by have q : DataW.trod enc Try.prog w base spare held n 35 (([v0, v1, v2, v3, v4, v5].drop 5).take (Try.prog.cellsOf 35)) = some z4 := h4; rw [cells_srule] at q; exact q
  obtain ⟨a5, l5, c5, e5, r5⟩ := open_rules k4 g4
  simp only [List.cons.injEq, and_true] at e5
  have q0 := hc 0 (by omega)
  have q1 := hc 1 (by omega)
  have q2 := hc 2 (by omega)
  have q3 := hc 3 (by omega)
  have q4 := hc 4 (by omega)
  have q5 := hc 5 (by omega)
  simp only [List.getElem?_cons_zero, List.getElem?_cons_succ, Nat.add_zero, e0, e1, e2, e3, e4, e5] at q0 q1 q2 q3 q4 q5
  exact ⟨⟨x0, x1, x2, x3, l4, l5⟩, q0, q1, q2, q3, ⟨a4, c4, q4, r4⟩, a5, c5, q5, r5⟩
theorem open_pols {fuel : Nat} {cs : List Value} {x : DataW H × List MemPlace} (h : DataW.trod enc Try.prog w base spare held fuel 24 cs = some x) (hw : ∀ n ∈ x.1.weights Try.prog 24, n ≤ reachBytes) :
    ∃ a l c, cs = [.slice a l.length c] ∧ RdSl w.heap.size w 6 80 ePol a l := open_list Try.underlying24 cells_pol bytes_pol (by decide) open_pol h hw
end
end Go.Proofs.Ytmkjlhplgcifiaa
