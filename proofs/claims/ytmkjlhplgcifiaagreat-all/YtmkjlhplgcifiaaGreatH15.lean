/-
  A cluster that came in, opened: what is read of it lies in memory as lists by their indices; each list's bytes are within the reach, each number within its range.
-/
import Derived.Test.YtmkjlhplgcifiaaGreatH14
import Derived.Test.YtmkjlhplgcifiaaGreatH12
import Derived.ProofKit
import Derived.SizedLaws
import Derived.Deep.Slices
import Derived.Lib.SmallJoins
import Derived.OpenShut
namespace Go.Proofs.YtmkjlhplgcifiaaGreat
open Go.ChangeShapes Go.WideShapes Go.ChangeAt Go.RowKit
set_option linter.unusedVariables false
set_option linter.unusedSimpArgs false
attribute [local simp] World.cell?_grow World.cell?_alloc_there
attribute [local go_sem] World.cell?_grow World.cell?_alloc_there eqg_blk std_blk eqg_pod std_pod eqg_sel std_sel eqg_prt std_prt
attribute [local go_sem ↓] eql_blk eql_sel neq_sel eql_prt eql_pod met_in1 met_in2 met_re1 met_re2 met_has1 met_has2 met_bl1 met_bl2
theorem reach_eq : reachBytes = 140737488351232 := rfl
theorem weightsAll_of {H : Type} {P : Program} {e : TypeId} : ∀ {l : List (DataW H)} {d : DataW H}, d ∈ l → ∀ n ∈ d.weights P e, n ∈ DataW.weightsAll P e l
  | d' :: r, d, hd, n, hn => by
    simp only [DataW.weightsAll, List.mem_append]
    rcases List.mem_cons.1 hd with rfl | h
    · exact Or.inl hn
    · exact Or.inr (weightsAll_of h n hn)
  | [], d, hd, _, _ => by cases hd
theorem list_of {α : Type} (Q : Nat → α → Prop) : ∀ n, (∀ i, i < n → ∃ x, Q i x) → ∃ l : List α, l.length = n ∧ ∀ i x, l[i]? = some x → Q i x
  | 0, _ => ⟨[], rfl, fun i x h => by simp at h⟩
  | n + 1, h => by
    obtain ⟨l, hl, hq⟩ := list_of Q n fun i hi => h i (by omega)
    obtain ⟨x, hx⟩ := h n (by omega)
    refine ⟨l ++ [x], by simp [hl], fun i y hy => ?_⟩
    by_cases hi : i < l.length
    · rw [List.getElem?_append_left hi] at hy
      exact hq i y hy
    · rw [List.getElem?_append_right (by omega)] at hy
      have h0 : i - l.length = 0 := by
        by_cases h0 : i - l.length = 0
        · exact h0
        · rw [List.getElem?_eq_none (by simp; omega)] at hy; cases hy
      rw [h0] at hy
      simp at hy
      subst hy
      have : i = n := by omega
      subst this
      exact hx
theorem list_2 {α : Type} {l : List α} (h : l.length = 2) : ∃ v0 v1, l = [v0, v1] := by
  match l, h with
  | [v0, v1], _ => exact ⟨v0, v1, rfl⟩
theorem list_3 {α : Type} {l : List α} (h : l.length = 3) : ∃ v0 v1 v2, l = [v0, v1, v2] := by
  match l, h with
  | [v0, v1, v2], _ => exact ⟨v0, v1, v2, rfl⟩
theorem list_4 {α : Type} {l : List α} (h : l.length = 4) : ∃ v0 v1 v2 v3, l = [v0, v1, v2, v3] := by
  match l, h with
  | [v0, v1, v2, v3], _ => exact ⟨v0, v1, v2, v3, rfl⟩
theorem list_6 {α : Type} {l : List α} (h : l.length = 6) : ∃ v0 v1 v2 v3 v4 v5, l = [v0, v1, v2, v3, v4, v5] := by
  match l, h with
  | [v0, v1, v2, v3, v4, v5], _ => exact ⟨v0, v1, v2, v3, v4, v5, rfl⟩
theorem list_7 {α : Type} {l : List α} (h : l.length = 7) : ∃ v0 v1 v2 v3 v4 v5 v6, l = [v0, v1, v2, v3, v4, v5, v6] := by
  match l, h with
  | [v0, v1, v2, v3, v4, v5, v6], _ => exact ⟨v0, v1, v2, v3, v4, v5, v6, rfl⟩
theorem blk_lt {w : World} {a : Addr} {v : Value} (h : w.cell? a = some v) : a.block < w.heap.size := by
  by_cases hb : a.block < w.heap.size
  · exact hb
  · unfold World.cell? at h
    rw [Array.getElem?_eq_none (by omega)] at h
    cases h
section
variable {H : Type} {enc : TypeId × Value → H} {w : World} {base : Nat} {spare : Nat → Bool} {held : Bool}
abbrev OpenE (enc : TypeId × Value → H) (w : World) (base : Nat) (spare : Nat → Bool) (held : Bool) {α : Type} (e : TypeId) (sz : Nat) (E : Nat → World → Nat → Nat → α → Prop) : Prop :=
  ∀ (b o fuel : Nat) (cs : List Value) (y : DataW H × List MemPlace), (∀ j, j < sz → w.cell? ⟨b, o + j, none⟩ = cs[j]?) → DataW.trod enc Tryz.prog w base spare held fuel e cs = some y → (∀ n ∈ y.1.weights Tryz.prog e, n ≤ reachBytes) → ∃ x : α, E w.heap.size w b o x
theorem open_list {α : Type} {S e : TypeId} {sz bytes : Nat} {E : Nat → World → Nat → Nat → α → Prop} (hS : Tryz.prog.underlying S = some (.slice e)) (hC : Tryz.prog.cellsOf e = sz) (hY : Tryz.prog.bytesOf e = bytes) (hp : 0 < sz)
    (hE : OpenE enc w base spare held e sz E) {fuel : Nat} {cs : List Value} {x : DataW H × List MemPlace} (h : DataW.trod enc Tryz.prog w base spare held fuel S cs = some x) (hw : ∀ n ∈ x.1.weights Tryz.prog S, n ≤ reachBytes) :
    ∃ (a : Option Addr) (l : List α) (c : Nat), cs = [.slice a l.length c] ∧ RdSl w.heap.size w sz bytes E a l := by
  rcases Go.Deep.open_slice hS h with ⟨rfl, _⟩ | ⟨a, len, cap, m, n, D, Pl, rfl, hb, hl, hm, hmm, rfl, hx⟩
  · exact ⟨none, [], 0, rfl, rd_nil _ _ _ _ _ _⟩
  have hlm : len ≤ m := by rw [hmm]; split <;> omega
  have hby : len * bytes ≤ 140737488351232 := by
    have h1 := hw ((len + (m - len)) * bytes) (by simp [DataW.weights, hS, hY])
    rw [reach_eq] at h1
    exact Nat.le_trans (Nat.mul_le_mul_right _ (Nat.le_add_right _ _)) h1
  rw [hC] at hx
  by_cases h0 : len = 0
  · subst h0
    exact ⟨some a, [], cap, rfl, rd_nil _ _ _ _ _ _⟩
  have hcell : ∀ i, i < len → ∃ cs', (∀ j, j < sz → w.cell? (a.add (i * sz + j)) = cs'[j]?) ∧ cs'.length = sz ∧ DataW.trod enc Tryz.prog w base spare held n e cs' = some (D i, Pl i) := fun i hi => by
    obtain ⟨cs', k1, k2⟩ := hx i (by omega)
    obtain ⟨_, k3, k4⟩ := World.cells?_some k1
    exact ⟨cs', fun j hj => by rw [← Go.Deep.add_add]; exact k4 j hj, k3, k2⟩
  have hsp : a.spot = none ∧ a.block < w.heap.size := by
    obtain ⟨cs', k1, k2, _⟩ := hcell 0 (by omega)
    have k3 := k1 0 hp
    rw [List.getElem?_eq_getElem (by omega)] at k3
    have e0 : a.add (0 * sz + 0) = a := by simp [Addr.add]
    rw [e0] at k3
    exact ⟨World.cell?_spot k3, blk_lt k3⟩
  obtain ⟨b, off, sp⟩ := a
  obtain ⟨hs1, hs2⟩ := hsp
  simp only at hs1 hs2
  subst hs1
  obtain ⟨l, hll, hq⟩ := list_of (fun i x => E w.heap.size w b (off + i * sz) x) len fun i hi => by
    obtain ⟨cs', k1, k2, k3⟩ := hcell i hi
    refine hE b (off + i * sz) n cs' (D i, Pl i) (fun j hj => ?_) k3 (fun k hk => hw k ?_)
    · rw [Nat.add_assoc, ← add_plain]
      exact k1 j hj
    · have hmem : D i ∈ (List.range len).map D := List.mem_map.2 ⟨i, List.mem_range.2 hi, rfl⟩
      simp only [DataW.weights, hS, List.mem_cons, List.mem_append]
      exact Or.inr (Or.inl (weightsAll_of hmem k hk))
  exact ⟨some ⟨b, off, none⟩, l, cap, by rw [hll], by rw [hll]; exact hby, fun i x hx' => ⟨b, off, rfl, hs2, hq i x hx'⟩⟩
theorem open_st {t : TypeId} {fs : Array Field} {fuel : Nat} {cs : List Value} {y : DataW H × List MemPlace} (ht : Tryz.prog.underlying t = some (.struct fs)) (h : DataW.trod enc Tryz.prog w base spare held fuel t cs = some y) (hw : ∀ n ∈ y.1.weights Tryz.prog t, n ≤ reachBytes) :
    cs.length = Tryz.prog.cellsOf t ∧ ∃ n, ∀ (i : Nat) (f : Field), fs[i]? = some f → ∃ z, DataW.trod enc Tryz.prog w base spare held n f.type ((cs.drop f.offset).take (Tryz.prog.cellsOf f.type)) = some z ∧ ∀ k ∈ z.1.weights Tryz.prog f.type, k ≤ reachBytes := by
  obtain ⟨xs, n, _, rfl, hl, hlen, hf⟩ := DataW.trod_struct ht h
  refine ⟨hl, n, fun i f hfi => ?_⟩
  have hi : i < xs.length := by rw [hlen]; exact (Array.getElem?_eq_some_iff.1 hfi).1
  have h1 := hf i f hfi
  rw [List.getElem?_eq_getElem hi] at h1
  refine ⟨_, h1, fun k hk => hw k ?_⟩
  simp only [DataW.weights, ht]
  exact DataW.weights_mem_each (j := i) (t := f.type) (d := (xs[i]).1) (by simp [hfi]) (by simp [hi]) k hk
end
theorem rd_split {α : Type} {B : Nat} {w : World} {sz bytes : Nat} {E : Nat → World → Nat → Nat → α → Prop} {I : α → Prop} {a : Option Addr} {l : List α} (h : RdSl B w sz bytes (fun B w b o x => E B w b o x ∧ I x) a l) : RdSl B w sz bytes E a l ∧ ∀ x ∈ l, I x := by
  refine ⟨⟨h.1, fun i x hx => ?_⟩, fun x hx => ?_⟩
  · obtain ⟨b, off, h1, h2, h3, _⟩ := h.2 i x hx
    exact ⟨b, off, h1, h2, h3⟩
  · obtain ⟨i, hi⟩ := List.mem_iff_getElem?.1 hx
    obtain ⟨b, off, _, _, _, h4⟩ := h.2 i x hi
    exact h4
theorem i64_wf {n : Int} (h : (Lit.int .i64 n).wf = true) : i64 n := by
  simp only [Lit.wf, Bool.and_eq_true, decide_eq_true_eq, IntKind.min, IntKind.max, IntKind.signed, IntKind.bits] at h
  unfold i64
  simp at h
  omega
theorem cells_int : Tryz.prog.cellsOf 3 = 1 := by kernel_rfl
theorem cells_blk : Tryz.prog.cellsOf 47 = 2 := by kernel_rfl
theorem bytes_blk : Tryz.prog.bytesOf 47 = 16 := by kernel_rfl
theorem cells_pod : Tryz.prog.cellsOf 54 = 4 := by kernel_rfl
theorem bytes_pod : Tryz.prog.bytesOf 54 = 32 := by kernel_rfl
theorem cells_prt : Tryz.prog.cellsOf 109 = 3 := by kernel_rfl
theorem bytes_prt : Tryz.prog.bytesOf 109 = 24 := by kernel_rfl
theorem cells_peer : Tryz.prog.cellsOf 69 = 7 := by kernel_rfl
theorem bytes_peer : Tryz.prog.bytesOf 69 = 72 := by kernel_rfl
theorem cells_rule : Tryz.prog.cellsOf 64 = 2 := by kernel_rfl
theorem bytes_rule : Tryz.prog.bytesOf 64 = 48 := by kernel_rfl
theorem cells_pol : Tryz.prog.cellsOf 59 = 6 := by kernel_rfl
theorem bytes_pol : Tryz.prog.bytesOf 59 = 80 := by kernel_rfl
theorem cells_sel : Tryz.prog.cellsOf 56 = 2 := by kernel_rfl
theorem cells_clu : Tryz.prog.cellsOf 28 = 2 := by kernel_rfl
theorem cells_pkt : Tryz.prog.cellsOf 30 = 4 := by kernel_rfl
theorem cells_sblk : Tryz.prog.cellsOf 67 = 1 := by kernel_rfl
theorem cells_sprt : Tryz.prog.cellsOf 62 = 1 := by kernel_rfl
theorem cells_speer : Tryz.prog.cellsOf 61 = 1 := by kernel_rfl
theorem cells_srule : Tryz.prog.cellsOf 57 = 1 := by kernel_rfl
section
variable {H : Type} {enc : TypeId × Value → H} {w : World} {base : Nat} {spare : Nat → Bool} {held : Bool}
theorem open_it {fuel : Nat} {v : Value} {y : DataW H × List MemPlace} (h : DataW.trod enc Tryz.prog w base spare held fuel 3 [v] = some y) : ∃ n, v = .int .i64 n ∧ i64 n := by
  obtain ⟨n, e, _, hw⟩ := DataW.trod_int Tryz.underlying3 h
  exact ⟨n, by simpa using e, i64_wf hw⟩
theorem open_two {t : TypeId} {fuel : Nat} {v0 v1 : Value} {y : DataW H × List MemPlace} {f0 f1 : Field} (ht : Tryz.prog.underlying t = some (.struct #[f0, f1])) (e0 : f0.type = 3) (e1 : f1.type = 3) (o0 : f0.offset = 0) (o1 : f1.offset = 1) (h : DataW.trod enc Tryz.prog w base spare held fuel t [v0, v1] = some y) (hw : ∀ n ∈ y.1.weights Tryz.prog t, n ≤ reachBytes) : ∃ n0 n1, v0 = .int .i64 n0 ∧ v1 = .int .i64 n1 ∧ i64 n0 ∧ i64 n1 := by
  obtain ⟨_, n, hf⟩ := open_st ht h hw
  obtain ⟨z0, h0, _⟩ := hf 0 f0 rfl
  obtain ⟨z1, h1, _⟩ := hf 1 f1 rfl
  rw [e0, o0, cells_int] at h0
  rw [e1, o1, cells_int] at h1
  obtain ⟨n0, rfl, j0⟩ := open_it h0
  obtain ⟨n1, rfl, j1⟩ := open_it h1
  exact ⟨n0, n1, rfl, rfl, j0, j1⟩
theorem open_blk : OpenE enc w base spare held 47 2 (fun B w b o x => eBlk B w b o x ∧ iBlk x) := by
  intro b o fuel cs y hc h hw
  obtain ⟨hl, n, hf⟩ := open_st Tryz.underlying47 h hw
  rw [cells_blk] at hl
  obtain ⟨v0, v1, rfl⟩ := list_2 hl
  obtain ⟨z0, h0, g0⟩ := hf 0 _ rfl
  obtain ⟨z1, h1, g1⟩ := hf 1 _ rfl
  have k0 : DataW.trod enc Tryz.prog w base spare held n 3 [v0] = some z0 := by have q : DataW.trod enc Tryz.prog w base spare held n 3 (([v0, v1].drop 0).take (Tryz.prog.cellsOf 3)) = some z0 := h0; rw [cells_int] at q; exact q
  obtain ⟨x0, e0, i0⟩ := open_it k0
  have k1 : DataW.trod enc Tryz.prog w base spare held n 3 [v1] = some z1 := by have q : DataW.trod enc Tryz.prog w base spare held n 3 (([v0, v1].drop 1).take (Tryz.prog.cellsOf 3)) = some z1 := h1; rw [cells_int] at q; exact q
  obtain ⟨x1, e1, i1⟩ := open_it k1
  have q0 := hc 0 (by omega)
  have q1 := hc 1 (by omega)
  simp only [List.getElem?_cons_zero, List.getElem?_cons_succ, Nat.add_zero, e0, e1] at q0 q1
  exact ⟨⟨x0, x1⟩, ⟨q0, q1⟩, i0, i1⟩
theorem open_blks {fuel : Nat} {cs : List Value} {x : DataW H × List MemPlace} (h : DataW.trod enc Tryz.prog w base spare held fuel 67 cs = some x) (hw : ∀ n ∈ x.1.weights Tryz.prog 67, n ≤ reachBytes) :
    ∃ a l c, cs = [.slice a l.length c] ∧ RdSl w.heap.size w 2 16 eBlk a l ∧ ∀ x ∈ l, iBlk x := by
  obtain ⟨a, l, c, h1, h2⟩ := open_list Tryz.underlying67 cells_blk bytes_blk (by decide) open_blk h hw
  exact ⟨a, l, c, h1, rd_split h2⟩
theorem open_pod : OpenE enc w base spare held 54 4 (fun B w b o x => ePod B w b o x ∧ iPod x) := by
  intro b o fuel cs y hc h hw
  obtain ⟨hl, n, hf⟩ := open_st Tryz.underlying54 h hw
  rw [cells_pod] at hl
  obtain ⟨v0, v1, v2, v3, rfl⟩ := list_4 hl
  obtain ⟨z0, h0, g0⟩ := hf 0 _ rfl
  obtain ⟨z1, h1, g1⟩ := hf 1 _ rfl
  obtain ⟨z2, h2, g2⟩ := hf 2 _ rfl
  obtain ⟨z3, h3, g3⟩ := hf 3 _ rfl
  have k0 : DataW.trod enc Tryz.prog w base spare held n 3 [v0] = some z0 := by have q : DataW.trod enc Tryz.prog w base spare held n 3 (([v0, v1, v2, v3].drop 0).take (Tryz.prog.cellsOf 3)) = some z0 := h0; rw [cells_int] at q; exact q
  obtain ⟨x0, e0, i0⟩ := open_it k0
  have k1 : DataW.trod enc Tryz.prog w base spare held n 3 [v1] = some z1 := by have q : DataW.trod enc Tryz.prog w base spare held n 3 (([v0, v1, v2, v3].drop 1).take (Tryz.prog.cellsOf 3)) = some z1 := h1; rw [cells_int] at q; exact q
  obtain ⟨x1, e1, i1⟩ := open_it k1
  have k2 : DataW.trod enc Tryz.prog w base spare held n 3 [v2] = some z2 := by have q : DataW.trod enc Tryz.prog w base spare held n 3 (([v0, v1, v2, v3].drop 2).take (Tryz.prog.cellsOf 3)) = some z2 := h2; rw [cells_int] at q; exact q
  obtain ⟨x2, e2, i2⟩ := open_it k2
  have k3 : DataW.trod enc Tryz.prog w base spare held n 3 [v3] = some z3 := by have q : DataW.trod enc Tryz.prog w base spare held n 3 (([v0, v1, v2, v3].drop 3).take (Tryz.prog.cellsOf 3)) = some z3 := h3; rw [cells_int] at q; exact q
  obtain ⟨x3, e3, i3⟩ := open_it k3
  have q0 := hc 0 (by omega)
  have q1 := hc 1 (by omega)
  have q2 := hc 2 (by omega)
  have q3 := hc 3 (by omega)
  simp only [List.getElem?_cons_zero, List.getElem?_cons_succ, Nat.add_zero, e0, e1, e2, e3] at q0 q1 q2 q3
  exact ⟨⟨x0, x1, x2, x3⟩, ⟨q0, q1, q2, q3⟩, i0, i1, i2, i3⟩
theorem open_pods {fuel : Nat} {cs : List Value} {x : DataW H × List MemPlace} (h : DataW.trod enc Tryz.prog w base spare held fuel 25 cs = some x) (hw : ∀ n ∈ x.1.weights Tryz.prog 25, n ≤ reachBytes) :
    ∃ a l c, cs = [.slice a l.length c] ∧ RdSl w.heap.size w 4 32 ePod a l ∧ ∀ x ∈ l, iPod x := by
  obtain ⟨a, l, c, h1, h2⟩ := open_list Tryz.underlying25 cells_pod bytes_pod (by decide) open_pod h hw
  exact ⟨a, l, c, h1, rd_split h2⟩
theorem open_prt : OpenE enc w base spare held 109 3 (fun B w b o x => ePort B w b o x ∧ iPort x) := by
  intro b o fuel cs y hc h hw
  obtain ⟨hl, n, hf⟩ := open_st Tryz.underlying109 h hw
  rw [cells_prt] at hl
  obtain ⟨v0, v1, v2, rfl⟩ := list_3 hl
  obtain ⟨z0, h0, g0⟩ := hf 0 _ rfl
  obtain ⟨z1, h1, g1⟩ := hf 1 _ rfl
  obtain ⟨z2, h2, g2⟩ := hf 2 _ rfl
  have k0 : DataW.trod enc Tryz.prog w base spare held n 3 [v0] = some z0 := by have q : DataW.trod enc Tryz.prog w base spare held n 3 (([v0, v1, v2].drop 0).take (Tryz.prog.cellsOf 3)) = some z0 := h0; rw [cells_int] at q; exact q
  obtain ⟨x0, e0, i0⟩ := open_it k0
  have k1 : DataW.trod enc Tryz.prog w base spare held n 3 [v1] = some z1 := by have q : DataW.trod enc Tryz.prog w base spare held n 3 (([v0, v1, v2].drop 1).take (Tryz.prog.cellsOf 3)) = some z1 := h1; rw [cells_int] at q; exact q
  obtain ⟨x1, e1, i1⟩ := open_it k1
  have k2 : DataW.trod enc Tryz.prog w base spare held n 3 [v2] = some z2 := by have q : DataW.trod enc Tryz.prog w base spare held n 3 (([v0, v1, v2].drop 2).take (Tryz.prog.cellsOf 3)) = some z2 := h2; rw [cells_int] at q; exact q
  obtain ⟨x2, e2, i2⟩ := open_it k2
  have q0 := hc 0 (by omega)
  have q1 := hc 1 (by omega)
  have q2 := hc 2 (by omega)
  simp only [List.getElem?_cons_zero, List.getElem?_cons_succ, Nat.add_zero, e0, e1, e2] at q0 q1 q2
  exact ⟨⟨x0, x1, x2⟩, ⟨q0, q1, q2⟩, i0, i1, i2⟩
theorem open_prts {fuel : Nat} {cs : List Value} {x : DataW H × List MemPlace} (h : DataW.trod enc Tryz.prog w base spare held fuel 62 cs = some x) (hw : ∀ n ∈ x.1.weights Tryz.prog 62, n ≤ reachBytes) :
    ∃ a l c, cs = [.slice a l.length c] ∧ RdSl w.heap.size w 3 24 ePort a l ∧ ∀ x ∈ l, iPort x := by
  obtain ⟨a, l, c, h1, h2⟩ := open_list Tryz.underlying62 cells_prt bytes_prt (by decide) open_prt h hw
  exact ⟨a, l, c, h1, rd_split h2⟩
theorem open_peer : OpenE enc w base spare held 69 7 (fun B w b o x => ePeer B w b o x ∧ iPeer x) := by
  intro b o fuel cs y hc h hw
  obtain ⟨hl, n, hf⟩ := open_st Tryz.underlying69 h hw
  rw [cells_peer] at hl
  obtain ⟨v0, v1, v2, v3, v4, v5, v6, rfl⟩ := list_7 hl
  obtain ⟨z0, h0, g0⟩ := hf 0 _ rfl
  obtain ⟨z1, h1, g1⟩ := hf 1 _ rfl
  obtain ⟨z2, h2, g2⟩ := hf 2 _ rfl
  obtain ⟨z3, h3, g3⟩ := hf 3 _ rfl
  obtain ⟨z4, h4, g4⟩ := hf 4 _ rfl
  have k0 : DataW.trod enc Tryz.prog w base spare held n 3 [v0] = some z0 := by have q : DataW.trod enc Tryz.prog w base spare held n 3 (([v0, v1, v2, v3, v4, v5, v6].drop 0).take (Tryz.prog.cellsOf 3)) = some z0 := h0; rw [cells_int] at q; exact q
  obtain ⟨x0, e0, i0⟩ := open_it k0
  have k1 : DataW.trod enc Tryz.prog w base spare held n 56 [v1, v2] = some z1 := by have q : DataW.trod enc Tryz.prog w base spare held n 56 (([v0, v1, v2, v3, v4, v5, v6].drop 1).take (Tryz.prog.cellsOf 56)) = some z1 := h1; rw [cells_sel] at q; exact q
  obtain ⟨x1, x2, e1, e2, i1, i2⟩ := open_two Tryz.underlying56 rfl rfl rfl rfl k1 g1
  have k2 : DataW.trod enc Tryz.prog w base spare held n 3 [v3] = some z2 := by have q : DataW.trod enc Tryz.prog w base spare held n 3 (([v0, v1, v2, v3, v4, v5, v6].drop 3).take (Tryz.prog.cellsOf 3)) = some z2 := h2; rw [cells_int] at q; exact q
  obtain ⟨x3, e3, i3⟩ := open_it k2
  have k3 : DataW.trod enc Tryz.prog w base spare held n 47 [v4, v5] = some z3 := by have q : DataW.trod enc Tryz.prog w base spare held n 47 (([v0, v1, v2, v3, v4, v5, v6].drop 4).take (Tryz.prog.cellsOf 47)) = some z3 := h3; rw [cells_blk] at q; exact q
  obtain ⟨x4, x5, e4, e5, i4, i5⟩ := open_two Tryz.underlying47 rfl rfl rfl rfl k3 g3
  have k4 : DataW.trod enc Tryz.prog w base spare held n 67 [v6] = some z4 := by have q : DataW.trod enc Tryz.prog w base spare held n 67 (([v0, v1, v2, v3, v4, v5, v6].drop 6).take (Tryz.prog.cellsOf 67)) = some z4 := h4; rw [cells_sblk] at q; exact q
  obtain ⟨a6, l6, c6, e6, r6, i6⟩ := open_blks k4 g4
  simp only [List.cons.injEq, and_true] at e6
  have q0 := hc 0 (by omega)
  have q1 := hc 1 (by omega)
  have q2 := hc 2 (by omega)
  have q3 := hc 3 (by omega)
  have q4 := hc 4 (by omega)
  have q5 := hc 5 (by omega)
  have q6 := hc 6 (by omega)
  simp only [List.getElem?_cons_zero, List.getElem?_cons_succ, Nat.add_zero, e0, e1, e2, e3, e4, e5, e6] at q0 q1 q2 q3 q4 q5 q6
  exact ⟨⟨x0, x1, x2, x3, x4, x5, l6⟩, ⟨q0, q1, q2, q3, q4, q5, a6, c6, q6, r6⟩, i0, i1, i2, i3, i4, i5, i6⟩
theorem open_peers {fuel : Nat} {cs : List Value} {x : DataW H × List MemPlace} (h : DataW.trod enc Tryz.prog w base spare held fuel 61 cs = some x) (hw : ∀ n ∈ x.1.weights Tryz.prog 61, n ≤ reachBytes) :
    ∃ a l c, cs = [.slice a l.length c] ∧ RdSl w.heap.size w 7 72 ePeer a l ∧ ∀ x ∈ l, iPeer x := by
  obtain ⟨a, l, c, h1, h2⟩ := open_list Tryz.underlying61 cells_peer bytes_peer (by decide) open_peer h hw
  exact ⟨a, l, c, h1, rd_split h2⟩
theorem open_rule : OpenE enc w base spare held 64 2 (fun B w b o x => eRule B w b o x ∧ iRule x) := by
  intro b o fuel cs y hc h hw
  obtain ⟨hl, n, hf⟩ := open_st Tryz.underlying64 h hw
  rw [cells_rule] at hl
  obtain ⟨v0, v1, rfl⟩ := list_2 hl
  obtain ⟨z0, h0, g0⟩ := hf 0 _ rfl
  obtain ⟨z1, h1, g1⟩ := hf 1 _ rfl
  have k0 : DataW.trod enc Tryz.prog w base spare held n 61 [v0] = some z0 := by have q : DataW.trod enc Tryz.prog w base spare held n 61 (([v0, v1].drop 0).take (Tryz.prog.cellsOf 61)) = some z0 := h0; rw [cells_speer] at q; exact q
  obtain ⟨a0, l0, c0, e0, r0, i0⟩ := open_peers k0 g0
  simp only [List.cons.injEq, and_true] at e0
  have k1 : DataW.trod enc Tryz.prog w base spare held n 62 [v1] = some z1 := by have q : DataW.trod enc Tryz.prog w base spare held n 62 (([v0, v1].drop 1).take (Tryz.prog.cellsOf 62)) = some z1 := h1; rw [cells_sprt] at q; exact q
  obtain ⟨a1, l1, c1, e1, r1, i1⟩ := open_prts k1 g1
  simp only [List.cons.injEq, and_true] at e1
  have q0 := hc 0 (by omega)
  have q1 := hc 1 (by omega)
  simp only [List.getElem?_cons_zero, List.getElem?_cons_succ, Nat.add_zero, e0, e1] at q0 q1
  exact ⟨⟨l0, l1⟩, ⟨⟨a0, c0, q0, r0⟩, a1, c1, q1, r1⟩, i0, i1⟩
theorem open_rules {fuel : Nat} {cs : List Value} {x : DataW H × List MemPlace} (h : DataW.trod enc Tryz.prog w base spare held fuel 57 cs = some x) (hw : ∀ n ∈ x.1.weights Tryz.prog 57, n ≤ reachBytes) :
    ∃ a l c, cs = [.slice a l.length c] ∧ RdSl w.heap.size w 2 48 eRule a l ∧ ∀ x ∈ l, iRule x := by
  obtain ⟨a, l, c, h1, h2⟩ := open_list Tryz.underlying57 cells_rule bytes_rule (by decide) open_rule h hw
  exact ⟨a, l, c, h1, rd_split h2⟩
theorem open_pol : OpenE enc w base spare held 59 6 (fun B w b o x => ePol B w b o x ∧ iPol x) := by
  intro b o fuel cs y hc h hw
  obtain ⟨hl, n, hf⟩ := open_st Tryz.underlying59 h hw
  rw [cells_pol] at hl
  obtain ⟨v0, v1, v2, v3, v4, v5, rfl⟩ := list_6 hl
  obtain ⟨z0, h0, g0⟩ := hf 0 _ rfl
  obtain ⟨z1, h1, g1⟩ := hf 1 _ rfl
  obtain ⟨z2, h2, g2⟩ := hf 2 _ rfl
  obtain ⟨z3, h3, g3⟩ := hf 3 _ rfl
  obtain ⟨z4, h4, g4⟩ := hf 4 _ rfl
  have k0 : DataW.trod enc Tryz.prog w base spare held n 3 [v0] = some z0 := by have q : DataW.trod enc Tryz.prog w base spare held n 3 (([v0, v1, v2, v3, v4, v5].drop 0).take (Tryz.prog.cellsOf 3)) = some z0 := h0; rw [cells_int] at q; exact q
  obtain ⟨x0, e0, i0⟩ := open_it k0
  have k1 : DataW.trod enc Tryz.prog w base spare held n 56 [v1, v2] = some z1 := by have q : DataW.trod enc Tryz.prog w base spare held n 56 (([v0, v1, v2, v3, v4, v5].drop 1).take (Tryz.prog.cellsOf 56)) = some z1 := h1; rw [cells_sel] at q; exact q
  obtain ⟨x1, x2, e1, e2, i1, i2⟩ := open_two Tryz.underlying56 rfl rfl rfl rfl k1 g1
  have k2 : DataW.trod enc Tryz.prog w base spare held n 3 [v3] = some z2 := by have q : DataW.trod enc Tryz.prog w base spare held n 3 (([v0, v1, v2, v3, v4, v5].drop 3).take (Tryz.prog.cellsOf 3)) = some z2 := h2; rw [cells_int] at q; exact q
  obtain ⟨x3, e3, i3⟩ := open_it k2
  have k3 : DataW.trod enc Tryz.prog w base spare held n 57 [v4] = some z3 := by have q : DataW.trod enc Tryz.prog w base spare held n 57 (([v0, v1, v2, v3, v4, v5].drop 4).take (Tryz.prog.cellsOf 57)) = some z3 := h3; rw [cells_srule] at q; exact q
  obtain ⟨a4, l4, c4, e4, r4, i4⟩ := open_rules k3 g3
  simp only [List.cons.injEq, and_true] at e4
  have k4 : DataW.trod enc Tryz.prog w base spare held n 57 [v5] = some z4 := by have q : DataW.trod enc Tryz.prog w base spare held n 57 (([v0, v1, v2, v3, v4, v5].drop 5).take (Tryz.prog.cellsOf 57)) = some z4 := h4; rw [cells_srule] at q; exact q
  obtain ⟨a5, l5, c5, e5, r5, i5⟩ := open_rules k4 g4
  simp only [List.cons.injEq, and_true] at e5
  have q0 := hc 0 (by omega)
  have q1 := hc 1 (by omega)
  have q2 := hc 2 (by omega)
  have q3 := hc 3 (by omega)
  have q4 := hc 4 (by omega)
  have q5 := hc 5 (by omega)
  simp only [List.getElem?_cons_zero, List.getElem?_cons_succ, Nat.add_zero, e0, e1, e2, e3, e4, e5] at q0 q1 q2 q3 q4 q5
  exact ⟨⟨x0, x1, x2, x3, l4, l5⟩, ⟨q0, q1, q2, q3, ⟨a4, c4, q4, r4⟩, a5, c5, q5, r5⟩, i0, i1, i2, i3, i4, i5⟩
theorem open_pols {fuel : Nat} {cs : List Value} {x : DataW H × List MemPlace} (h : DataW.trod enc Tryz.prog w base spare held fuel 26 cs = some x) (hw : ∀ n ∈ x.1.weights Tryz.prog 26, n ≤ reachBytes) :
    ∃ a l c, cs = [.slice a l.length c] ∧ RdSl w.heap.size w 6 80 ePol a l ∧ ∀ x ∈ l, iPol x := by
  obtain ⟨a, l, c, h1, h2⟩ := open_list Tryz.underlying26 cells_pol bytes_pol (by decide) open_pol h hw
  exact ⟨a, l, c, h1, rd_split h2⟩
end
theorem row_own : ownKnob Tryz.prog.godebug = none := by kernel_rfl
theorem row_laid : laidOutB Tryz.prog = true := by kernel_rfl
theorem cells_spod : Tryz.prog.cellsOf 25 = 1 := by kernel_rfl
theorem cells_spol : Tryz.prog.cellsOf 26 = 1 := by kernel_rfl
def iPkt (k : DPkt) : Prop := i64 k.src ∧ i64 k.dst ∧ i64 k.proto ∧ i64 k.port
section
variable {H : Type} {enc : TypeId × Value → H} {P : Program}
theorem post_of_below {f : Func} {s : ChangeSpec} {apart fresh handsOn again : Bool} {W W' : World} {args : Array Value} {v : Value} {ds gs : List (DataW H)} {before : List MemPlace}
    (hW : DataW.Whole enc P f.params.toList s.vars apart W args.toList ds gs before)
    (hres : ∀ (b : Nat) (sp : Nat → Bool) (hd : Bool), DataW.TrodAll enc P W' b sp hd f.resultTypes.toList (v.resultList f.resultTypes.size) (s.fn H (ds ++ gs)).results [])
    (hargs : ∀ sp : Nat → Bool, (∀ p ∈ before, sp p.block = true) → DataW.TrodAll enc P W' 0 sp true f.params.toList args.toList (s.fn H (ds ++ gs)).args before)
    (hvars : ∀ sp : Nat → Bool, DataW.TrodVars enc P W' sp s.vars (s.fn H (ds ++ gs)).vars [])
    (hb : Below W.heap.size W W')
    (hok : ∀ (j : Nat) (t : TypeId) (r : Value), f.resultTypes[j]? = some t → (v.resultList f.resultTypes.size)[j]? = some r → Value.okWide P W' .any 0 t r) :
    s.post enc P f apart fresh handsOn again W args v W' := by
  have hold : ∀ p ∈ before, (fun b => decide (b < W.heap.size)) p.block = true := fun p hp => by simpa using hW.lt p hp
  have hW2 := hW
  refine ⟨ds, gs, before, [], before, [], hW, hres _ _ _, hargs _ hold, hvars _, World.keptBut_mono (fun p hp => ⟨hp, Or.inr (by simpa using hp)⟩) (hb.frame _), fun _ => ?_⟩
  obtain ⟨_, _, _, _, _, hz, hn⟩ := hW2
  refine ⟨hok, _, _, before, ⟨[] ++ before, [], trodAll_append (hargs _ (fun _ _ => rfl)) (hres _ _ _), hvars _, by simp, ?_, ?_⟩, ?_⟩
  · intro b off hp
    rw [hb.frozen (hW.lt _ hp)]
    exact hz b off hp
  · intro ha
    exact hn ha
  · intro p hp _
    simpa using hp
end
section
variable {H : Type} {enc : TypeId × Value → H} {w : World} {base : Nat} {spare : Nat → Bool} {held : Bool}
theorem open_clu {fuel : Nat} {c0 c1 : Value} {y : DataW H × List MemPlace} (h : DataW.trod enc Tryz.prog w base spare held fuel 28 [c0, c1] = some y) (hw : ∀ n ∈ y.1.weights Tryz.prog 28, n ≤ reachBytes) :
    ∃ pa pods pc qa pols qc, c0 = .slice pa pods.length pc ∧ c1 = .slice qa pols.length qc ∧ rdPods w.heap.size w pa pods ∧ rdPols w.heap.size w qa pols ∧ iClu ⟨pods, pols⟩ := by
  obtain ⟨_, n, hf⟩ := open_st Tryz.underlying28 h hw
  obtain ⟨z0, k0, b0⟩ := hf 0 _ rfl
  obtain ⟨z1, k1, b1⟩ := hf 1 _ rfl
  have k0' : DataW.trod enc Tryz.prog w base spare held n 25 [c0] = some z0 := by have q : DataW.trod enc Tryz.prog w base spare held n 25 (([c0, c1].drop 0).take (Tryz.prog.cellsOf 25)) = some z0 := k0; rw [cells_spod] at q; exact q
  have k1' : DataW.trod enc Tryz.prog w base spare held n 26 [c1] = some z1 := by have q : DataW.trod enc Tryz.prog w base spare held n 26 (([c0, c1].drop 1).take (Tryz.prog.cellsOf 26)) = some z1 := k1; rw [cells_spol] at q; exact q
  obtain ⟨pa, pods, pc, e0, rp, ip⟩ := open_pods k0' b0
  obtain ⟨qa, pols, qc, e1, rq, iq⟩ := open_pols k1' b1
  simp only [List.cons.injEq, and_true] at e0 e1
  exact ⟨pa, pods, pc, qa, pols, qc, e0, e1, rp, rq, ip, iq⟩
theorem open_pkt {fuel : Nat} {x0 x1 x2 x3 : Value} {y : DataW H × List MemPlace} (h : DataW.trod enc Tryz.prog w base spare held fuel 30 [x0, x1, x2, x3] = some y) (hw : ∀ n ∈ y.1.weights Tryz.prog 30, n ≤ reachBytes) :
    ∃ k : DPkt, x0 = .int .i64 k.src ∧ x1 = .int .i64 k.dst ∧ x2 = .int .i64 k.proto ∧ x3 = .int .i64 k.port ∧ iPkt k := by
  obtain ⟨_, n, hf⟩ := open_st Tryz.underlying30 h hw
  obtain ⟨z0, h0, _⟩ := hf 0 _ rfl
  obtain ⟨z1, h1, _⟩ := hf 1 _ rfl
  obtain ⟨z2, h2, _⟩ := hf 2 _ rfl
  obtain ⟨z3, h3, _⟩ := hf 3 _ rfl
  have k0 : DataW.trod enc Tryz.prog w base spare held n 3 [x0] = some z0 := by have q : DataW.trod enc Tryz.prog w base spare held n 3 (([x0, x1, x2, x3].drop 0).take (Tryz.prog.cellsOf 3)) = some z0 := h0; rw [cells_int] at q; exact q
  have k1 : DataW.trod enc Tryz.prog w base spare held n 3 [x1] = some z1 := by have q : DataW.trod enc Tryz.prog w base spare held n 3 (([x0, x1, x2, x3].drop 1).take (Tryz.prog.cellsOf 3)) = some z1 := h1; rw [cells_int] at q; exact q
  have k2 : DataW.trod enc Tryz.prog w base spare held n 3 [x2] = some z2 := by have q : DataW.trod enc Tryz.prog w base spare held n 3 (([x0, x1, x2, x3].drop 2).take (Tryz.prog.cellsOf 3)) = some z2 := h2; rw [cells_int] at q; exact q
  have k3 : DataW.trod enc Tryz.prog w base spare held n 3 [x3] = some z3 := by have q : DataW.trod enc Tryz.prog w base spare held n 3 (([x0, x1, x2, x3].drop 3).take (Tryz.prog.cellsOf 3)) = some z3 := h3; rw [cells_int] at q; exact q
  obtain ⟨s0, e0, i0⟩ := open_it k0
  obtain ⟨s1, e1, i1⟩ := open_it k1
  obtain ⟨s2, e2, i2⟩ := open_it k2
  obtain ⟨s3, e3, i3⟩ := open_it k3
  exact ⟨⟨s0, s1, s2, s3⟩, e0, e1, e2, e3, i0, i1, i2, i3⟩
end
end Go.Proofs.YtmkjlhplgcifiaaGreat
