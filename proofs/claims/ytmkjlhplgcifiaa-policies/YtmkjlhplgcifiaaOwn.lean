/-
  Lists that a call has made by appending: how their cells read as data.
-/
import Derived.Test.YtmkjlhplgcifiaaBase
import Derived.OwnWalk
namespace Go.Proofs.Ytmkjlhplgcifiaa
open Go.ChangeShapes Go.WideShapes Go.ChangeAt Go.RowKit
set_option linter.unusedVariables false
set_option linter.unusedSimpArgs false

theorem oflat_len {α : Type} {enc : α → List Value} {k : Nat} (hk : ∀ x, (enc x).length = k) : ∀ l : List α, (l.flatMap enc).length = l.length * k
  | [] => by simp
  | x :: l => by rw [List.flatMap_cons, List.length_append, hk, oflat_len hk l, List.length_cons, Nat.add_mul]; omega
theorem oflat_get {α : Type} {enc : α → List Value} {k : Nat} (hk : ∀ x, (enc x).length = k) : ∀ (l : List α) (i : Nat) (x : α) (j : Nat), l[i]? = some x → j < k → (l.flatMap enc)[i * k + j]? = (enc x)[j]?
  | [], i, x, j, h, _ => by simp at h
  | y :: l, 0, x, j, h, hj => by
    simp at h; subst h
    rw [List.flatMap_cons, List.getElem?_append_left (by rw [hk]; omega)]; simp
  | y :: l, i + 1, x, j, h, hj => by
    rw [List.flatMap_cons, List.getElem?_append_right (by rw [hk, Nat.add_mul]; omega), hk]
    have := oflat_get hk l i x j (by simpa using h) hj
    rw [← this]; congr 1; rw [Nat.add_mul]; omega
theorem own_to {w w1 : World} {base : Nat} {e : TypeId} {size : Nat} {v : Value} {n : Nat} {xs : List Value} (h : w.ownsRow base e size v n xs) (hb : Below w.heap.size w w1) : w1.ownsRow base e size v n xs := by
  obtain ⟨h1, h2⟩ := h
  refine ⟨h1, ?_⟩
  rcases h2 with h2 | ⟨g, cap, cur, a, b, c, d⟩
  · exact .inl h2
  · refine .inr ⟨g, cap, cur, a, b, ?_, d⟩
    have hg : g < w.heap.size := by
      rcases Nat.lt_or_ge g w.heap.size with h | h
      · exact h
      · rw [Array.getElem?_eq_none h] at c; cases c
    rw [hb.block g hg]; exact c
theorem own_below {B : Nat} {w W w3 : World} {e : TypeId} {size : Nat} {v : Value} {n : Nat} {xs : List Value} (hb : Below B w W) (hB : B ≤ W.heap.size) (ho : W.ownsRow B e size v n xs) (hg : W.grownBy w3 v.ownBlock) : Below B w w3 :=
  Below.grown hb hg hB (fun j hj => (ho.lt _ hj).1)
theorem own_slice {w : World} {base : Nat} {e : TypeId} {size : Nat} {v : Value} {n : Nat} {xs : List Value} (h : w.ownsRow base e size v n xs) :
    ∃ a c, v = .slice a n c ∧ n ≤ c ∧ ∀ j u, xs[j]? = some u → ∃ b, a = some ⟨b, 0, none⟩ ∧ base ≤ b ∧ b < w.heap.size ∧ w.cell? ⟨b, j, none⟩ = some u := by
  have h0 := h
  obtain ⟨h1, h2⟩ := h
  rcases h2 with ⟨rfl, rfl⟩ | ⟨g, cap, cur, rfl, b, c, d, _⟩
  · exact ⟨none, 0, rfl, Nat.le_refl _, fun j u hj => by rw [List.length_eq_zero_iff.1 (by omega : xs.length = 0)] at hj; simp at hj⟩
  · refine ⟨_, _, rfl, d, fun j u hj => ⟨g, rfl, b, (h0.lt g rfl).2, ?_⟩⟩
    have := h0.cells (g := g) rfl j u hj
    rw [show ((⟨g, 0, none⟩ : Addr).add j) = ⟨g, j, none⟩ by unfold Addr.add; split <;> simp_all] at this
    exact this
theorem own_rd {α : Type} {w : World} {base : Nat} {e : TypeId} {k bytes : Nat} {v : Value} {l : List α} {enc : α → List Value} {E : Nat → World → Nat → Nat → α → Prop} (hk : ∀ x, (enc x).length = k)
    (h : w.ownsRow base e k v l.length (l.flatMap enc)) (hp : 0 < k) (hy : l.length * bytes ≤ 140737488351232)
    (hE : ∀ b o x, x ∈ l → b < w.heap.size → (∀ j u, (enc x)[j]? = some u → w.cell? ⟨b, o + j, none⟩ = some u) → E w.heap.size w b o x) :
    ∃ a c, v = .slice a l.length c ∧ l.length ≤ c ∧ RdSl w.heap.size w k bytes E a l := by
  obtain ⟨a, c, rfl, hc, hcell⟩ := own_slice h
  refine ⟨a, c, rfl, hc, hy, fun i x hx => ?_⟩
  have h0 : (enc x)[0]? ≠ none := by rw [List.getElem?_eq_getElem (by rw [hk]; exact hp)]; simp
  obtain ⟨u0, hu0⟩ := Option.ne_none_iff_exists'.1 h0
  obtain ⟨b, rfl, _, hb, _⟩ := hcell _ u0 ((oflat_get hk l i x 0 hx hp).trans hu0)
  refine ⟨b, 0, rfl, hb, hE _ _ _ (List.mem_of_getElem? hx) hb fun j u hj => ?_⟩
  have hjk : j < k := by rw [← hk x]; exact (List.getElem?_eq_some_iff.1 hj).1
  obtain ⟨b', e', _, _, hc'⟩ := hcell _ u ((oflat_get hk l i x j hx hjk).trans hj)
  cases e'
  rw [Nat.zero_add]; exact hc'
theorem cell_new_list (w : World) (cs : List Value) (t : TypeId) : ∀ j u, cs[j]? = some u → (w.alloc (.cells cs.toArray t)).cell? ((⟨w.heap.size, 0, none⟩ : Addr).add j) = some u := by
  intro j u hj
  rw [show ((⟨w.heap.size, 0, none⟩ : Addr).add j) = ⟨w.heap.size, j, none⟩ by unfold Addr.add; split <;> simp_all]
  simp [hj]

def encPod (p : DPod) : List Value := [.int .i64 p.host, .int .i64 p.ip, .int .i64 p.space, .int .i64 p.labels]
def encBlk (p : DBlk) : List Value := [.int .i64 p.base, .int .i64 p.bits]
theorem own_pods {w : World} {base : Nat} {e : TypeId} {v : Value} {l : List DPod} (h : w.ownsRow base e 4 v l.length (l.flatMap encPod)) (hy : l.length * 32 ≤ 140737488351232) : ∃ a c, v = .slice a l.length c ∧ l.length ≤ c ∧ rdPods w.heap.size w a l :=
  own_rd (fun _ => rfl) h (by decide) hy fun b o x _ _ hc => ⟨hc 0 _ rfl, hc 1 _ rfl, hc 2 _ rfl, hc 3 _ rfl⟩
theorem own_blks {w : World} {base : Nat} {e : TypeId} {v : Value} {l : List DBlk} (h : w.ownsRow base e 2 v l.length (l.flatMap encBlk)) (hy : l.length * 16 ≤ 140737488351232) : ∃ a c, v = .slice a l.length c ∧ l.length ≤ c ∧ rdBlks w.heap.size w a l :=
  own_rd (fun _ => rfl) h (by decide) hy fun b o x _ _ hc => ⟨hc 0 _ rfl, hc 1 _ rfl⟩
/-- a policy, and the two lists that its value names -/
structure RPol where
  d : DPol
  o : Value
  i : Value
def encPol (p : RPol) : List Value := [.int .i64 p.d.space, .int .i64 p.d.need, .int .i64 p.d.ban, .int .i64 p.d.ways, p.o, p.i]
def RPol.ok (B : Nat) (w : World) (p : RPol) : Prop := (∃ a c, p.o = .slice a p.d.outs.length c ∧ rdRules B w a p.d.outs) ∧ ∃ a c, p.i = .slice a p.d.ins.length c ∧ rdRules B w a p.d.ins
theorem own_pols {w0 w : World} {base : Nat} {e : TypeId} {v : Value} {l : List RPol} (h : w.ownsRow base e 6 v l.length (l.flatMap encPol)) (hy : l.length * 80 ≤ 140737488351232) (hb : Below w0.heap.size w0 w) (hok : ∀ p ∈ l, p.ok w0.heap.size w0) :
    ∃ a c, v = .slice a l.length c ∧ l.length ≤ c ∧ rdPols w.heap.size w a (l.map (·.d)) := by
  obtain ⟨a, c, e, hc, hr⟩ := own_rd (k := 6) (E := fun B w b o (x : RPol) => ePol B w b o x.d) (bytes := 80) (fun _ => rfl) h (by decide) hy fun b o x hx _ hc => by
    obtain ⟨⟨oa, oc, ho, hro⟩, ia, ic, hi, hri⟩ := hok x hx
    exact ⟨hc 0 _ rfl, hc 1 _ rfl, hc 2 _ rfl, hc 3 _ rfl, ⟨oa, oc, by rw [← ho]; exact hc 4 _ rfl, rdRules.ext hb hb.size hro⟩, ia, ic, by rw [← hi]; exact hc 5 _ rfl, rdRules.ext hb hb.size hri⟩
  refine ⟨a, c, e, hc, by simpa using hr.1, fun i x hx => ?_⟩
  rw [List.getElem?_map] at hx
  obtain ⟨y, hy, rfl⟩ := Option.map_eq_some_iff.1 hx
  exact hr.2 i y hy
theorem take_filter {α : Type} {l : List α} {f : α → Bool} {k : Nat} {x : α} (h : l[k]? = some x) (hf : f x = true) : (l.take (k + 1)).filter f = (l.take k).filter f ++ [x] := by
  rw [List.take_add_one, h]; simp [hf]
theorem take_filter' {α : Type} {l : List α} {f : α → Bool} {k : Nat} {x : α} (h : l[k]? = some x) (hf : f x = false) : (l.take (k + 1)).filter f = (l.take k).filter f := by
  rw [List.take_add_one, h]; simp [hf]
theorem filter_le {α : Type} (l : List α) (f : α → Bool) (k : Nat) : ((l.take k).filter f).length ≤ k := Nat.le_trans (List.length_filter_le _ _) (by rw [List.length_take]; omega)
end Go.Proofs.Ytmkjlhplgcifiaa
