/-
  Rows of marks: lists of one row again and again, that are written over and appended to.
-/
import Derived.Test.YtmkjlhplgcifiaaGreatH29
import Derived.Laws.AppendOwn
import Derived.Maps.AppendAt
namespace Go.Proofs.YtmkjlhplgcifiaaGreat
open Go.ChangeShapes Go.WideShapes Go.ChangeAt Go.RowKit
set_option linter.unusedVariables false
set_option linter.unusedSimpArgs false
attribute [local simp] World.cell?_grow World.cell?_alloc_there
attribute [local go_sem] World.cell?_grow World.cell?_alloc_there eqg_blk std_blk eqg_pod std_pod eqg_sel std_sel eqg_prt std_prt eqg_row std_row
attribute [local go_sem ↓] eql_blk eql_sel neq_sel eql_prt eql_pod met_in1 met_in2 met_re1 met_re2 met_has1 met_has2 met_bl1 met_bl2 neq_row
def marks (r : DRow) (n : Nat) : List Value := (List.replicate n r).flatMap encRow
theorem marks_len (r : DRow) (n : Nat) : (marks r n).length = n * 8 := by rw [marks, oflat_len (k := 8) (fun _ => rfl)]; simp
theorem marks_get (r : DRow) (n j : Nat) (h : j < n * 8) : (marks r n)[j]? = (encRow r)[j % 8]? := by
  have h1 := oflat_get (k := 8) (enc := encRow) (fun _ => rfl) (List.replicate n r) (j / 8) r (j % 8) (by rw [List.getElem?_replicate, if_pos (by omega)]) (Nat.mod_lt _ (by decide))
  rw [Nat.div_add_mod' j 8] at h1
  exact h1
theorem marks_of {cur : Array Value} {n : Nat} {r : DRow} (hs : n * 8 ≤ cur.size) (h : ∀ j, j < n * 8 → cur[j]? = (encRow r)[j % 8]?) : cur.toList.take (n * 8) = marks r n := by
  apply List.ext_getElem?
  intro j
  by_cases hj : j < n * 8
  · rw [List.getElem?_take, if_pos hj, marks_get r n j hj, ← h j hj, Array.getElem?_toList]
  · rw [List.getElem?_eq_none (by rw [List.length_take]; omega), List.getElem?_eq_none (by rw [marks_len]; omega)]
theorem of_marks {cur : Array Value} {n : Nat} {r : DRow} (h : cur.toList.take (n * 8) = marks r n) : ∀ j, j < n * 8 → cur[j]? = (encRow r)[j % 8]? := by
  intro j hj
  rw [← marks_get r n j hj, ← h, List.getElem?_take, if_pos hj, Array.getElem?_toList]
theorem set8_get (cur : Array Value) (o : Nat) (m0 m1 m2 m3 m4 m5 m6 m7 : Value) (ho : o + 8 ≤ cur.size) (j : Nat) :
    ((((((((cur.setIfInBounds o m0).setIfInBounds (o + 1) m1).setIfInBounds (o + 2) m2).setIfInBounds (o + 3) m3).setIfInBounds (o + 4) m4).setIfInBounds (o + 5) m5).setIfInBounds (o + 6) m6).setIfInBounds (o + 7) m7)[j]? =
      if j < o then cur[j]? else if j < o + 8 then [m0, m1, m2, m3, m4, m5, m6, m7][j - o]? else cur[j]? := by
  simp only [Array.getElem?_setIfInBounds, Array.size_setIfInBounds]
  by_cases h1 : j < o
  · rw [if_pos h1]
    simp only [show ¬ o = j by omega, show ¬ o + 1 = j by omega, show ¬ o + 2 = j by omega, show ¬ o + 3 = j by omega, show ¬ o + 4 = j by omega, show ¬ o + 5 = j by omega, show ¬ o + 6 = j by omega, show ¬ o + 7 = j by omega, if_false]
  · rw [if_neg h1]
    by_cases h2 : j < o + 8
    · rw [if_pos h2]
      rcases (show j = o ∨ j = o + 1 ∨ j = o + 2 ∨ j = o + 3 ∨ j = o + 4 ∨ j = o + 5 ∨ j = o + 6 ∨ j = o + 7 by omega) with rfl | rfl | rfl | rfl | rfl | rfl | rfl | rfl <;> simp <;> omega
    · rw [if_neg h2]
      simp only [show ¬ o = j by omega, show ¬ o + 1 = j by omega, show ¬ o + 2 = j by omega, show ¬ o + 3 = j by omega, show ¬ o + 4 = j by omega, show ¬ o + 5 = j by omega, show ¬ o + 6 = j by omega, show ¬ o + 7 = j by omega, if_false]
theorem run_append_marks {P : Program} (w : World) (base : Nat) (t ty e : TypeId) (i : TypeInfo) (z : Value) (bytes : Nat) (ht : P.underlying t = some (.slice e)) (hi : P.info? e = some i) (hz : i.zero = some z)
    (hsize : i.size = 8) (hby : i.bytes = bytes) (hzs : z.cells.size = 8) (r : DRow) (v : Value) (n : Nat) (hown : w.ownsRow base e 8 v n (marks r n))
    (a : Addr) (m c : Nat) (hnews : ∀ j u, (marks r m)[j]? = some u → w.cell? (a.add j) = some u) (h63 : n + m ≤ maxLen) (hbytes : (n + m) * bytes ≤ 140737488355328) (hbase : base ≤ w.heap.size) :
    ∃ v' w', (Builtin.append_ #[t, t] ty #[v, .slice (some a) m c]).run P w = .ok v' w' ∧ w'.ownsRow base e 8 v' (n + m) (marks r (n + m)) ∧ w.grownBy w' v.ownBlock ∧ (v'.ownBlock = v.ownBlock ∨ v'.ownBlock = some w.heap.size) ∧
      ∀ u k, w.ownsRow base e 8 u k (marks r k) → w'.ownsRow base e 8 u k (marks r k) := by
  have hone : ∀ u ∈ marks r m, u.oneCell' = true := by
    intro u hu
    simp only [marks, List.mem_flatMap] at hu
    obtain ⟨x, _, hu⟩ := hu
    simp only [encRow, List.mem_cons, List.not_mem_nil, or_false] at hu
    rcases hu with rfl | rfl | rfl | rfl | rfl | rfl | rfl | rfl <;> rfl
  have happ : marks r n ++ marks r m = marks r (n + m) := by rw [marks, marks, marks, ← List.flatMap_append, List.replicate_append_replicate]
  obtain ⟨v', w', hr, h2, h3, h4, h5⟩ := run_append_own_at (P := P) w base t ty e i z 8 bytes ht hi hz hsize hby hzs (by decide) v n (marks r n) hown a m c (marks r m) (marks_len r m) hnews hone h63 hbytes hbase
  rw [happ] at h2
  refine ⟨v', w', hr, h2, h3, h5, fun u k hu => ?_⟩
  have hu0 := hu
  obtain ⟨hl, h | ⟨g, cap, cur, rfl, hb, hg, hk, hc, hs, ht2⟩⟩ := hu
  · exact ⟨hl, .inl h⟩
  have hgl : g < w.heap.size := (Array.getElem?_eq_some_iff.1 hg).1
  by_cases hv : v.ownBlock = some g
  · -- the same block: it was written in place, or left as it was
    obtain ⟨hvl, h | ⟨g2, cap2, cur2, rfl, hb2, hg2, hk2, hc2, hs2, ht3⟩⟩ := hown
    · rw [h.1] at hv; cases hv
    · have : g2 = g := by simpa [Value.ownBlock] using hv
      subst this
      rw [hg] at hg2
      cases hg2
      by_cases hroom : n + m ≤ cap2
      · have hfit : n * i.size + (marks r m).length ≤ cur.size := by rw [marks_len, hsize, hs2, ← Nat.add_mul]; exact Nat.mul_le_mul_right _ hroom
        have hrr := run_append_room (P := P) w t ty e i ht hi g2 n cap2 cur hg a m c (marks r m) (by rw [marks_len, hsize]) hnews hone hroom hfit
        rw [hrr] at hr
        cases hr
        refine ⟨hl, .inr ⟨g2, cap, _, rfl, hb, setRow_heap w g2 cur _ e _ hg, hk, hc, ?_, ?_⟩⟩
        · rw [← hs]
          simp only [List.size_toArray, List.length_append, List.length_take, List.length_drop, Array.length_toList]
          omega
        · refine marks_of ?_ fun j hj => ?_
          · have : k * 8 ≤ cap * 8 := Nat.mul_le_mul_right _ hk
            simp only [List.size_toArray, List.length_append, List.length_take, List.length_drop, Array.length_toList]
            omega
          · have hcur := of_marks ht2 j hj
            rw [marks_len, hsize] at hfit
            simp only [List.getElem?_toArray, marks_len, hsize]
            by_cases h1 : j < n * 8
            · rw [List.append_assoc, List.getElem?_append_left (by rw [List.length_take, Array.length_toList]; omega), List.getElem?_take, if_pos h1, Array.getElem?_toList]
              exact hcur
            · by_cases h2 : j < n * 8 + m * 8
              · rw [List.append_assoc, List.getElem?_append_right (by rw [List.length_take, Array.length_toList]; omega), List.length_take, Array.length_toList, Nat.min_eq_left (by omega), List.getElem?_append_left (by rw [marks_len]; omega), marks_get r m _ (by omega)]
                congr 1
                omega
              · rw [List.getElem?_append_right (by rw [List.length_append, List.length_take, Array.length_toList, marks_len]; omega), List.length_append, List.length_take, Array.length_toList, marks_len, Nat.min_eq_left (by omega), List.getElem?_drop, Array.getElem?_toList]
                rw [← hcur]
                congr 1
                omega
      · have holds : ∀ j u, (marks r n)[j]? = some u → w.cell? ((⟨g2, 0, none⟩ : Addr).add j) = some u := (show w.ownsRow base e 8 (.slice (some ⟨g2, 0, none⟩) n cap2) n (marks r n) from ⟨hvl, .inr ⟨g2, cap2, cur, rfl, hb2, hg, hk2, hc2, hs2, ht3⟩⟩).cells (g := g2) rfl
        have hrr := run_append_grow (P := P) w t ty e i z ht hi hz ⟨g2, 0, none⟩ n cap2 (marks r n) (by rw [marks_len, hsize]) holds a m c (marks r m) (by rw [marks_len, hsize]) hnews (by omega) (by simp only [maxLen] at h63; omega) (by rw [hby]; exact growslice_fits (by omega) hbytes)
        rw [hrr] at hr
        cases hr
        exact ⟨hl, .inr ⟨g2, cap, cur, rfl, hb, (Below.heap_alloc w.drew _ g2 hgl).trans hg, hk, hc, hs, ht2⟩⟩
  · exact ⟨hl, .inr ⟨g, cap, cur, rfl, hb, (h3.block g hgl (fun e => hv e.symm)).trans hg, hk, hc, hs, ht2⟩⟩
end Go.Proofs.YtmkjlhplgcifiaaGreat
