/-
  Lists that a call has made by appending: how their cells read as data.
  slices.Values and slices.Collect at rows: a list of its own with the same rows.
  The library's sort, at rows, lies in this program as the shelf knows it.
  slices.SortFunc and slices.SortedFunc at rows: the same rows in some order.
-/
import Derived.Test.YtmkjlhplgcifiaaGreatQ01
import Derived.OwnWalk
import Derived.Test.YtmkjlhplgcifiaaGreatRows
import Derived.RangeFuncNested
import Derived.RangeFuncLeaves
import Derived.RangeFuncBox
import Derived.OwnWalkIn
import Derived.TacticsInMore
import Derived.LoopNIn
import Derived.LoopIn
import Derived.Maps.AppendAt
import Derived.Shelf.SlSortCmp.WholeK
namespace Go.Proofs.YtmkjlhplgcifiaaGreat
open Go.ChangeShapes Go.WideShapes Go.ChangeAt Go.RowKit
set_option linter.unusedVariables false
set_option linter.unusedSimpArgs false

theorem oflat_len {α : Type} {enc : α → List Value} {k : Nat} (hk : ∀ x, (enc x).length = k) : ∀ l : List α, (l.flatMap enc).length = l.length * k
  | [] => by simp
  | x :: l => by rw [List.flatMap_cons, List.length_append, hk, oflat_len hk l, List.length_cons, Nat.add_mul]; omega
theorem oflat_get {α : Type} {enc : α → List Value} {k : Nat} (hk : ∀ x, (enc x).length = k) : ∀ (l : List α) (i : Nat) (x : α) (j : Nat), l[i]? = some x → j < k → (l.flatMap enc)[i * k + j]? = (enc x)[j]?
  | [], i, x, j, h, _ => by simp at h
  | y :: l, 0, x, j, h, hj => by
    simp at h; subst h
    rw [List.flatMap_cons, List.getElem?_append_left (by rw [hk]; omega)]; simp
  | y :: l, i + 1, x, j, h, hj => by
    rw [List.flatMap_cons, List.getElem?_append_right (by rw [hk, Nat.add_mul]; omega), hk]
    have := oflat_get hk l i x j (by simpa using h) hj
    rw [← this]; congr 1; rw [Nat.add_mul]; omega
theorem own_to {w w1 : World} {base : Nat} {e : TypeId} {size : Nat} {v : Value} {n : Nat} {xs : List Value} (h : w.ownsRow base e size v n xs) (hb : Below w.heap.size w w1) : w1.ownsRow base e size v n xs := by
  obtain ⟨h1, h2⟩ := h
  refine ⟨h1, ?_⟩
  rcases h2 with h2 | ⟨g, cap, cur, a, b, c, d⟩
  · exact .inl h2
  · refine .inr ⟨g, cap, cur, a, b, ?_, d⟩
    have hg : g < w.heap.size := by
      rcases Nat.lt_or_ge g w.heap.size with h | h
      · exact h
      · rw [Array.getElem?_eq_none h] at c; cases c
    rw [hb.block g hg]; exact c
theorem own_below {B : Nat} {w W w3 : World} {e : TypeId} {size : Nat} {v : Value} {n : Nat} {xs : List Value} (hb : Below B w W) (hB : B ≤ W.heap.size) (ho : W.ownsRow B e size v n xs) (hg : W.grownBy w3 v.ownBlock) : Below B w w3 :=
  Below.grown hb hg hB (fun j hj => (ho.lt _ hj).1)
theorem own_slice {w : World} {base : Nat} {e : TypeId} {size : Nat} {v : Value} {n : Nat} {xs : List Value} (h : w.ownsRow base e size v n xs) :
    ∃ a c, v = .slice a n c ∧ n ≤ c ∧ ∀ j u, xs[j]? = some u → ∃ b, a = some ⟨b, 0, none⟩ ∧ base ≤ b ∧ b < w.heap.size ∧ w.cell? ⟨b, j, none⟩ = some u := by
  have h0 := h
  obtain ⟨h1, h2⟩ := h
  rcases h2 with ⟨rfl, rfl⟩ | ⟨g, cap, cur, rfl, b, c, d, _⟩
  · exact ⟨none, 0, rfl, Nat.le_refl _, fun j u hj => by rw [List.length_eq_zero_iff.1 (by omega : xs.length = 0)] at hj; simp at hj⟩
  · refine ⟨_, _, rfl, d, fun j u hj => ⟨g, rfl, b, (h0.lt g rfl).2, ?_⟩⟩
    have := h0.cells (g := g) rfl j u hj
    rw [show ((⟨g, 0, none⟩ : Addr).add j) = ⟨g, j, none⟩ by unfold Addr.add; split <;> simp_all] at this
    exact this
theorem own_rd {α : Type} {w : World} {base : Nat} {e : TypeId} {k bytes : Nat} {v : Value} {l : List α} {enc : α → List Value} {E : Nat → World → Nat → Nat → α → Prop} (hk : ∀ x, (enc x).length = k)
    (h : w.ownsRow base e k v l.length (l.flatMap enc)) (hp : 0 < k) (hy : l.length * bytes ≤ 140737488351232)
    (hE : ∀ b o x, x ∈ l → b < w.heap.size → (∀ j u, (enc x)[j]? = some u → w.cell? ⟨b, o + j, none⟩ = some u) → E w.heap.size w b o x) :
    ∃ a c, v = .slice a l.length c ∧ l.length ≤ c ∧ RdSl w.heap.size w k bytes E a l := by
  obtain ⟨a, c, rfl, hc, hcell⟩ := own_slice h
  refine ⟨a, c, rfl, hc, hy, fun i x hx => ?_⟩
  have h0 : (enc x)[0]? ≠ none := by rw [List.getElem?_eq_getElem (by rw [hk]; exact hp)]; simp
  obtain ⟨u0, hu0⟩ := Option.ne_none_iff_exists'.1 h0
  obtain ⟨b, rfl, _, hb, _⟩ := hcell _ u0 ((oflat_get hk l i x 0 hx hp).trans hu0)
  refine ⟨b, 0, rfl, hb, hE _ _ _ (List.mem_of_getElem? hx) hb fun j u hj => ?_⟩
  have hjk : j < k := by rw [← hk x]; exact (List.getElem?_eq_some_iff.1 hj).1
  obtain ⟨b', e', _, _, hc'⟩ := hcell _ u ((oflat_get hk l i x j hx hjk).trans hj)
  cases e'
  rw [Nat.zero_add]; exact hc'
theorem cell_new_list (w : World) (cs : List Value) (t : TypeId) : ∀ j u, cs[j]? = some u → (w.alloc (.cells cs.toArray t)).cell? ((⟨w.heap.size, 0, none⟩ : Addr).add j) = some u := by
  intro j u hj
  rw [show ((⟨w.heap.size, 0, none⟩ : Addr).add j) = ⟨w.heap.size, j, none⟩ by unfold Addr.add; split <;> simp_all]
  simp [hj]

def encPod (p : DPod) : List Value := [.int .i64 p.host, .int .i64 p.ip, .int .i64 p.space, .int .i64 p.labels]
def encBlk (p : DBlk) : List Value := [.int .i64 p.base, .int .i64 p.bits]
theorem own_pods {w : World} {base : Nat} {e : TypeId} {v : Value} {l : List DPod} (h : w.ownsRow base e 4 v l.length (l.flatMap encPod)) (hy : l.length * 32 ≤ 140737488351232) : ∃ a c, v = .slice a l.length c ∧ l.length ≤ c ∧ rdPods w.heap.size w a l :=
  own_rd (fun _ => rfl) h (by decide) hy fun b o x _ _ hc => ⟨hc 0 _ rfl, hc 1 _ rfl, hc 2 _ rfl, hc 3 _ rfl⟩
theorem own_blks {w : World} {base : Nat} {e : TypeId} {v : Value} {l : List DBlk} (h : w.ownsRow base e 2 v l.length (l.flatMap encBlk)) (hy : l.length * 16 ≤ 140737488351232) : ∃ a c, v = .slice a l.length c ∧ l.length ≤ c ∧ rdBlks w.heap.size w a l :=
  own_rd (fun _ => rfl) h (by decide) hy fun b o x _ _ hc => ⟨hc 0 _ rfl, hc 1 _ rfl⟩
/-- a policy, and the two lists that its value names -/
structure RPol where
  d : DPol
  o : Value
  i : Value
def encPol (p : RPol) : List Value := [.int .i64 p.d.space, .int .i64 p.d.need, .int .i64 p.d.ban, .int .i64 p.d.ways, p.o, p.i]
def RPol.ok (B : Nat) (w : World) (p : RPol) : Prop := (∃ a c, p.o = .slice a p.d.outs.length c ∧ rdRules B w a p.d.outs) ∧ ∃ a c, p.i = .slice a p.d.ins.length c ∧ rdRules B w a p.d.ins
theorem own_pols {w0 w : World} {base : Nat} {e : TypeId} {v : Value} {l : List RPol} (h : w.ownsRow base e 6 v l.length (l.flatMap encPol)) (hy : l.length * 80 ≤ 140737488351232) (hb : Below w0.heap.size w0 w) (hok : ∀ p ∈ l, p.ok w0.heap.size w0) :
    ∃ a c, v = .slice a l.length c ∧ l.length ≤ c ∧ rdPols w.heap.size w a (l.map (·.d)) := by
  obtain ⟨a, c, e, hc, hr⟩ := own_rd (k := 6) (E := fun B w b o (x : RPol) => ePol B w b o x.d) (bytes := 80) (fun _ => rfl) h (by decide) hy fun b o x hx _ hc => by
    obtain ⟨⟨oa, oc, ho, hro⟩, ia, ic, hi, hri⟩ := hok x hx
    exact ⟨hc 0 _ rfl, hc 1 _ rfl, hc 2 _ rfl, hc 3 _ rfl, ⟨oa, oc, by rw [← ho]; exact hc 4 _ rfl, rdRules.ext hb hb.size hro⟩, ia, ic, by rw [← hi]; exact hc 5 _ rfl, rdRules.ext hb hb.size hri⟩
  refine ⟨a, c, e, hc, by simpa using hr.1, fun i x hx => ?_⟩
  rw [List.getElem?_map] at hx
  obtain ⟨y, hy, rfl⟩ := Option.map_eq_some_iff.1 hx
  exact hr.2 i y hy
theorem take_filter {α : Type} {l : List α} {f : α → Bool} {k : Nat} {x : α} (h : l[k]? = some x) (hf : f x = true) : (l.take (k + 1)).filter f = (l.take k).filter f ++ [x] := by
  rw [List.take_add_one, h]; simp [hf]
theorem take_filter' {α : Type} {l : List α} {f : α → Bool} {k : Nat} {x : α} (h : l[k]? = some x) (hf : f x = false) : (l.take (k + 1)).filter f = (l.take k).filter f := by
  rw [List.take_add_one, h]; simp [hf]
theorem filter_le {α : Type} (l : List α) (f : α → Bool) (k : Nat) : ((l.take k).filter f).length ≤ k := Nat.le_trans (List.length_filter_le _ _) (by rw [List.length_take]; omega)
end Go.Proofs.YtmkjlhplgcifiaaGreat
namespace Go.Proofs.YtmkjlhplgcifiaaGreat
open Go.ChangeShapes Go.WideShapes Go.ChangeAt Go.RowKit
attribute [local go_sem] Oper.semAt_some
set_option linter.unusedVariables false
set_option linter.unusedSimpArgs false

def eRow (_B : Nat) (w : World) (b o : Nat) (x : DRow) : Prop :=
  w.cell? ⟨b, o, none⟩ = some (.int .i64 x.sb) ∧ w.cell? ⟨b, o + 1, none⟩ = some (.int .i64 x.sn) ∧ w.cell? ⟨b, o + 2, none⟩ = some (.int .i64 x.db) ∧ w.cell? ⟨b, o + 3, none⟩ = some (.int .i64 x.dn) ∧
  w.cell? ⟨b, o + 4, none⟩ = some (.int .i64 x.proto) ∧ w.cell? ⟨b, o + 5, none⟩ = some (.int .i64 x.lo) ∧ w.cell? ⟨b, o + 6, none⟩ = some (.int .i64 x.hi) ∧ w.cell? ⟨b, o + 7, none⟩ = some (.bool x.allow)
abbrev rdRows (B : Nat) (w : World) (a : Option Addr) (l : List DRow) : Prop := RdSl B w 8 64 eRow a l
theorem eRow.ext {B : Nat} {w w' : World} (B' : Nat) (hw : Below B w w') {b o : Nat} {x : DRow} (hb : b < B) (h : eRow B w b o x) : eRow B' w' b o x := by
  unfold eRow at *; simp only [hw.cell (p := ⟨b, _, none⟩) hb]; exact h
theorem rdRows.ext {B B' : Nat} {w w' : World} (hw : Below B w w') (hB : B ≤ B') {a : Option Addr} {l : List DRow} (h : rdRows B w a l) : rdRows B' w' a l := RdSl.ext h hB fun _ _ _ hb => eRow.ext _ hw hb
theorem rdRows.to {w w' : World} {a : Option Addr} {l : List DRow} (h : rdRows w.heap.size w a l) (hb : Below w.heap.size w w') : rdRows w'.heap.size w' a l := rdRows.ext hb hb.size h
theorem own_rows {w : World} {base : Nat} {e : TypeId} {v : Value} {l : List DRow} (h : w.ownsRow base e 8 v l.length (l.flatMap encRow)) (hy : l.length * 64 ≤ 140737488351232) : ∃ a c, v = .slice a l.length c ∧ l.length ≤ c ∧ rdRows w.heap.size w a l :=
  own_rd (fun _ => rfl) h (by decide) hy fun b o x _ _ hc => ⟨hc 0 _ rfl, hc 1 _ rfl, hc 2 _ rfl, hc 3 _ rfl, hc 4 _ rfl, hc 5 _ rfl, hc 6 _ rfl, hc 7 _ rfl⟩

theorem info_row : (Tryz.prog.info? 49).map (fun i => (i.zero, i.size, i.bytes)) = some (some (.agg #[.int .i64 0, .int .i64 0, .int .i64 0, .int .i64 0, .int .i64 0, .int .i64 0, .int .i64 0, .bool false]), 8, 64) := by kernel_rfl

set_option maxRecDepth 100000 in
set_option maxHeartbeats 2000000 in
theorem rvalues1_in (F : Fence) (n : Nat) (hf : F.fn 179) (hro : F.round = none) (hn : 1 ≤ n) (l Bs n₀ : Nat) (a : Option Addr) (cap : Nat) (zs : List DRow) (J Jx : List DRow → World → Prop)
    (W : World) (hJ : ∀ pre W o, J pre W → J pre (W.alloc o)) (hn0 : n₀ ≤ W.heap.size)
    (hY : ∀ pre x W, J pre W → pre.length < zs.length → YieldAt F (n - 1) Tryz.prog l #[.agg #[.int .i64 x.sb, .int .i64 x.sn, .int .i64 x.db, .int .i64 x.dn, .int .i64 x.proto, .int .i64 x.lo, .int .i64 x.hi, .bool x.allow]] W fun e W' =>
      (e = .returned (.bool true) ∧ J (pre ++ [x]) W' ∧ Below n₀ W W') ∨ (e = .returned (.bool false) ∧ Jx (pre ++ [x]) W'))
    (hBs : W.cell? ⟨Bs, 0, none⟩ = some (.slice a zs.length cap)) (hc : rdRows n₀ W a zs) (h0 : J [] W) :
    CallsIn F n Tryz.prog 179 #[.func (.yield l) #[] #[], .pointer (some ⟨Bs, 0, none⟩)] W fun e W' => (∃ v, e = .returned v) ∧
      ((∃ ys, ys = zs ∧ J ys W') ∨ (∃ pre, pre <+: zs ∧ Jx pre W')) := by
  obtain ⟨hlen, hc⟩ := hc
  have HC := hid hc
  have HY := hid hY
  have HJ := hid hJ
  clear hc hY hJ
  refine callsIn_of_wp Tryz.func179 rfl hf ?_ hro
  simp only [Tryz.ntmps179, List.size_toArray, List.length_cons, List.length_nil, Nat.reduceAdd, Nat.reduceSub, Array.replicate_succ, Array.replicate_zero, List.push_toArray, List.append_toArray, List.nil_append, List.cons_append]
  gi_wp2
  gi_loopw [7] (fun i wr => ∃ k : Nat, k ≤ zs.length ∧ i = .int .i64 k ∧ J (zs.take k) wr ∧ Below n₀ W wr) (fun i _ => zs.length - (intOf i).toNat)
  case atStart => exact ⟨0, Nat.zero_le _, rfl, h0, Below.refl _ _⟩
  case round =>
    obtain ⟨k, hk, rfl, hJs, hnx⟩ := hrel
    by_cases hlt : k < zs.length
    · obtain ⟨x, hxk⟩ : ∃ x, zs[k]? = some x := ⟨zs[k], by simp [hlt]⟩
      have HX := hid hxk
      clear hxk
      obtain ⟨b, off, rfl, hb, c0, c1, c2, c3, c4, c5, c6, c7⟩ := HC.out k x HX.out
      have d0 := (hnx.cell (p := ⟨b, off + k * 8, none⟩) hb).trans c0
      have d1 := (hnx.cell (p := ⟨b, off + k * 8 + 1, none⟩) hb).trans c1
      have d2 := (hnx.cell (p := ⟨b, off + k * 8 + 2, none⟩) hb).trans c2
      have d3 := (hnx.cell (p := ⟨b, off + k * 8 + 3, none⟩) hb).trans c3
      have d4 := (hnx.cell (p := ⟨b, off + k * 8 + 4, none⟩) hb).trans c4
      have d5 := (hnx.cell (p := ⟨b, off + k * 8 + 5, none⟩) hb).trans c5
      have d6 := (hnx.cell (p := ⟨b, off + k * 8 + 6, none⟩) hb).trans c6
      have d7 := (hnx.cell (p := ⟨b, off + k * 8 + 7, none⟩) hb).trans c7
      have hns : n₀ ≤ wr.heap.size := Nat.le_trans hn0 hnx.size
      obtain ⟨fn, tmps, assign, body, hy, hR⟩ := HY.out _ x _ (HJ.out _ _ (.cells #[.int .i64 x.sb, .int .i64 x.sn, .int .i64 x.db, .int .i64 x.dn, .int .i64 x.proto, .int .i64 x.lo, .int .i64 x.hi, .bool x.allow] 49) hJs) (by rw [List.length_take]; omega)
      gi_wp2
      refine hR.mono ?_
      rintro e W3 (⟨rfl, hJ3, hk3⟩ | ⟨rfl, hJx3⟩)
      · gi_wp2
        go_roundw
        case rel => exact ⟨k + 1, by omega, by simp, by rw [List.take_add_one, HX.out]; exact hJ3, (hnx.alloc hns _).trans hk3⟩
        case measure => simp [intOf]; omega
      · gi_wp2
        refine bodyPost_ret (results_none rfl _ _ _) rfl ?_
        exact ⟨⟨_, rfl⟩, .inr ⟨_, ⟨zs.drop (k + 1), by
          have : zs.take k ++ [x] = zs.take (k + 1) := by rw [List.take_add_one, HX.out]; rfl
          rw [this, List.take_append_drop]⟩, hJx3⟩⟩
    · gi_wp2
      go_end0
      exact ⟨⟨_, rfl⟩, .inl ⟨_, rfl, by rwa [List.take_of_length_le (by omega)] at hJs⟩⟩

theorem rvalues_any (a : Option Addr) (n c : Nat) (w : World) : Calls Tryz.prog 164 #[.slice a n c] w fun e w' => e = .returned (.func (.func 179) #[] #[.pointer (some ⟨w.heap.size, 0, none⟩)]) ∧ w' = w.alloc (.cells #[.slice a n c] 40) := by
  go_enter Tryz.func164, Tryz.ntmps164
  go_wp2
  go_ret
  exact ⟨rfl, rfl⟩

theorem cell_of_heap {W : World} {B : Nat} {cs : Array Value} {t : TypeId} (h : W.heap[B]? = some (.cells cs t (0, 0))) (j : Nat) : W.cell? ⟨B, j, none⟩ = cs[j]? := by simp [World.cell?, h]
theorem own_block {β : Type} (B : Nat) (cs : β → Array Value) (t : TypeId) : Own (fun s W => W.heap[B]? = some (.cells (cs s) t (0, 0))) := by
  intro s X Y row h hg hrow
  rw [hg.block B (Array.getElem?_eq_some_iff.1 h).1 (fun e' => ?_)]
  · exact h
  · obtain ⟨o, ho, hc⟩ := hrow B e'.symm
    rw [h] at ho; cases ho; cases hc

set_option maxRecDepth 100000 in
set_option maxHeartbeats 4000000 in
theorem appendSeq_in (F : Fence) (n : Nat) (hA : F.fn 183) (hV : F.fn 179) (hro : F.round = none) (hn : 4 ≤ n) (a : Option Addr) (cap Bs : Nat) (zs : List DRow) (w : World)
    (hBs : w.cell? ⟨Bs, 0, none⟩ = some (.slice a zs.length cap)) (hc : rdRows w.heap.size w a zs) :
    CallsIn F n Tryz.prog 183 #[.slice none 0 0, .func (.func 179) #[] #[.pointer (some ⟨Bs, 0, none⟩)]] w fun e W' => ∃ v, e = .returned v ∧ W'.ownsRow w.heap.size 49 8 v zs.length (zs.flatMap encRow) ∧ Below w.heap.size w W' := by
  have h1 : 1 ≤ n := by omega
  have hlen := hc.1
  have HC := hid hc
  have HBs := hid hBs
  clear hc hBs
  obtain ⟨i0, hi, iz0, iz1, iz2⟩ := info_parts info_row
  refine callsIn_of_wp_marks Tryz.func183 rfl hA ?_ hro
  simp only [Tryz.ntmps183, List.size_toArray, List.length_cons, List.length_nil, Nat.reduceAdd, Nat.reduceSub, Array.replicate_succ, Array.replicate_zero, List.push_toArray, List.append_toArray, List.nil_append, List.cons_append]
  gi_wp2
  have bO := Boxed.new w 40 (.slice none 0 0)
  have hB0 : Below w.heap.size w (w.alloc (.cells #[.slice none 0 0] 40)) := (Below.refl _ w).alloc (Nat.le_refl _) _
  have hsz : (w.alloc (.cells #[.slice none 0 0] 40)).heap.size = w.heap.size + 1 := by simp
  have hBl := World.block_lt_of_cell? w ⟨Bs, 0, none⟩ HBs.out
  obtain ⟨W0, hW0⟩ : ∃ W0, w.alloc (.cells #[.slice none 0 0] 40) = W0 := ⟨_, rfl⟩
  rw [hW0] at bO hB0 hsz ⊢
  clear hW0
  have hcB : W0.cell? ⟨Bs, 0, none⟩ = some (.slice a zs.length cap) := (hB0.cell (p := ⟨Bs, 0, none⟩) hBl).trans HBs.out
  have HR := hid (rdRows.ext hB0 (Nat.le_refl _) HC.out)
  refine wpIn_rangeFunc_ownH hro h1 (gf := 179) (lb := #[.pointer (some ⟨Bs, 0, none⟩)]) rfl hV (enters_of Tryz.func179 (by kernel_rfl) rfl)
    (encs := fun x : DRow => #[.agg #[.int .i64 x.sb, .int .i64 x.sn, .int .i64 x.db, .int .i64 x.dn, .int .i64 x.proto, .int .i64 x.lo, .int .i64 x.hi, .bool x.allow]]) (Kp := Below w.heap.size) (S := fun ys => ys = zs) (Sp := fun pre => pre <+: zs) (N := zs.length) (w0 := W0)
    (fun l J Jx W hW hJ hJx hY h0 => rvalues1_in F (n - 1) hV hro (by omega) l Bs w.heap.size a cap zs J Jx W (fun pre W' o hj => hJ pre W' _ none hj (World.grownBy_alloc W' o none) (fun r e => by cases e)) (by have := hW.size; omega) hY
      ((hW.cell (p := ⟨Bs, 0, none⟩) (by omega)).trans hcB) (rdRows.ext (hW.mono (by omega)) (Nat.le_refl _) HR.out) h0)
    belowK_t (belowK_b (by omega)) (Below.refl _ _) (fun _ => rfl)
    (fun pre W => (∃ v, Boxed W w.heap.size 40 v ∧ W.ownsRow w.heap.size 49 8 v pre.length (pre.flatMap encRow) ∧ True) ∧ Below w.heap.size w W)
    (fun _ _ _ => False)
    (OwnFrom.and (Own.from (holdsRow_own w.heap.size w.heap.size 40 49 8 (fun pre : List DRow => pre.length) (fun pre => pre.flatMap encRow) (fun _ _ => True)) _) (ownFrom_below (Nat.le_refl _) (by omega)))
    (fun _ _ _ _ _ hs _ _ => hs)
    ⟨⟨_, bO, World.ownsRow_nil _ _ _ _, trivial⟩, hB0⟩
    (fun x a' W => ∃ Bx, w.heap.size < Bx ∧ W.heap[Bx]? = some (.cells #[.int .i64 x.sb, .int .i64 x.sn, .int .i64 x.db, .int .i64 x.dn, .int .i64 x.proto, .int .i64 x.lo, .int .i64 x.hi, .bool x.allow] 49 (0, 0)) ∧ a' = { tmps := #[.slice none 0 0, .func (.func 179) #[] #[.pointer (some ⟨Bs, 0, none⟩)], .pointer (some ⟨w.heap.size, 0, none⟩), undef, .slice none 0 0, .pointer (some ⟨Bx, 0, none⟩), .func (.func 179) #[] #[.pointer (some ⟨Bs, 0, none⟩)], .agg #[.int .i64 x.sb, .int .i64 x.sn, .int .i64 x.db, .int .i64 x.dn, .int .i64 x.proto, .int .i64 x.lo, .int .i64 x.hi, .bool x.allow], undef, undef, undef, undef, undef], defers := [] })
    (fun x a' _ X Y row hs hg hr => by obtain ⟨Bx, h1, h2, h3⟩ := hs; exact ⟨Bx, h1, own_block Bx (fun _ : Unit => #[.int .i64 x.sb, .int .i64 x.sn, .int .i64 x.db, .int .i64 x.dn, .int .i64 x.proto, .int .i64 x.lo, .int .i64 x.hi, .bool x.allow]) 49 () X Y row h2 hg (fun r e => (hr r e).2), h3⟩)
    ?assign ?body ?done ?stop
  case assign =>
    rintro l pre x W K ⟨⟨v, hv, hrow, _⟩, hB1⟩ hK
    gi_wp2
    exact hK _ _ ((KeepsOthers.alloc _ _).from _) ((Below.refl _ W).alloc hB1.size _) ⟨⟨v, hv.alloc _, hrow.alloc _, trivial⟩, hB1.alloc hB1.size _⟩ ⟨W.heap.size, hv.lt, World.alloc_heap_new W _, rfl⟩
  case body =>
    rintro l pre x a' W hl _ ⟨⟨v, hv, hrow, _⟩, hB1⟩ ⟨Bx, hBx, bX, rfl⟩ hlt
    have hc := hv.cell
    have x0 := cell_of_heap bX 0
    have x1 := cell_of_heap bX 1
    have x2 := cell_of_heap bX 2
    have x3 := cell_of_heap bX 3
    have x4 := cell_of_heap bX 4
    have x5 := cell_of_heap bX 5
    have x6 := cell_of_heap bX 6
    have x7 := cell_of_heap bX 7
    have hzl : pre.length * 64 + 64 ≤ 140737488351232 := by omega
    simp only [List.getElem?_toArray, List.getElem?_cons_zero, List.getElem?_cons_succ] at x0 x1 x2 x3 x4 x5 x6 x7
    have HRW := hid hrow
    have HBX := hid bX
    have HV := hid hv
    clear hrow bX
    gi_wp2_with (gi_at_builtin; refine wpListIn_append_own _ rfl _ _ 40 rfl w.heap.size 49 i0 _ 8 64 Tryz.underlying40 hi iz0 iz1 iz2 rfl (by decide) _ _ _ rfl (HRW.out.alloc _) ⟨W.heap.size, 0, none⟩ 1 1 [.int .i64 x.sb, .int .i64 x.sn, .int .i64 x.db, .int .i64 x.dn, .int .i64 x.proto, .int .i64 x.lo, .int .i64 x.hi, .bool x.allow] rfl rfl (cell_new_list _ [.int .i64 x.sb, .int .i64 x.sn, .int .i64 x.db, .int .i64 x.dn, .int .i64 x.proto, .int .i64 x.lo, .int .i64 x.hi, .bool x.allow] _) (fun u hu => by simp at hu; rcases hu with rfl | rfl | rfl | rfl | rfl | rfl | rfl | rfl <;> rfl) (by unfold maxLen; omega) (by omega) (by have := hB1.size; simp; omega) ?_; intro v' w1 hown' hgrow _; obtain ⟨g', cap', rfl⟩ := ownsRow_succ hown'; obtain ⟨hv1, hv2, hr2, hk2, hb2⟩ := HV.out.appended (by decide) HRW.out hB1.size (Nat.le_refl _) hown' hgrow; have hc1 := hv1.cell; have hf1 := hv1.frozen; have HZ := hid (And.intro hv2 (And.intro hr2 (And.intro hk2 hb2))); clear hv2 hr2 hk2 hb2 hown' hgrow hv1)
    exact ⟨HZ.out.2.2.1.from _, HZ.out.2.2.2, ⟨_, HZ.out.1, by simpa [encRow] using HZ.out.2.1⟩, hB1.trans HZ.out.2.2.2⟩
  case done =>
    rintro D ys W hD rfl ⟨⟨v, hv, hrow, _⟩, hB1⟩ hK
    have hc := hv.cell
    gi_wp2
    refine ⟨by simp, .inl ⟨_, _, rfl, run_takeDeferred hK, ?_⟩⟩
    exact ⟨_, results_tmp rfl _ _ _, v, rfl, ownsRow_putObj hrow _ hK rfl, hB1.trans (belowK_b (w := w) (Nat.le_refl _) W D _ _ (by omega) hK rfl rfl)⟩
  case stop =>
    rintro D c pre W _ _ h _
    exact h.elim

theorem collect_any (a : Option Addr) (cap Bs : Nat) (zs : List DRow) (w : World) (hBs : w.cell? ⟨Bs, 0, none⟩ = some (.slice a zs.length cap)) (hc : rdRows w.heap.size w a zs) :
    Calls Tryz.prog 177 #[.func (.func 179) #[] #[.pointer (some ⟨Bs, 0, none⟩)]] w fun e W' => ∃ v, e = .returned v ∧ W'.ownsRow w.heap.size 49 8 v zs.length (zs.flatMap encRow) ∧ Below w.heap.size w W' := by
  have HC := hid hc
  clear hc
  go_enter Tryz.func177, Tryz.ntmps177
  go_wp2_with (go_at_call 183; refine ((callsIn_wide (n := 6)).1 (appendSeq_in Fence.wide 6 trivial trivial rfl (by decide) a cap Bs zs _ hBs HC.out)).mono ?_; rintro e w' ⟨v, rfl, ho, hb⟩; have HO := hid ho; clear ho)
  go_ret
  exact ⟨v, rfl, HO.out, hb⟩
end Go.Proofs.YtmkjlhplgcifiaaGreat
namespace Go.Proofs.YtmkjlhplgcifiaaGreat
open Go.Shelf
def sortRow_ren : Go.Shelf.Ren := ⟨fun | 6 => 178 | 15 => 185 | 14 => 184 | 28 => 195 | 29 => 196 | 20 => 187 | 21 => 188 | 22 => 189 | 23 => 190 | 24 => 191 | 25 => 192 | 26 => 193 | 27 => 194 | 46 => 197 | 47 => 198 | 48 => 199 | 49 => 200 | 50 => 201 | 57 => 202 | n => n, fun | 22 => 40 | 24 => 49 | 25 => 211 | 3 => 3 | 39 => 233 | 0 => 0 | 53 => 243 | 55 => 245 | 4 => 4 | 46 => 236 | 45 => 235 | 50 => 240 | 5 => 5 | 9 => 9 | 66 => 246 | 70 => 250 | 76 => 252 | 77 => 139 | n => n, fun | n => n⟩
theorem sortRow : Go.Proofs.SlLaysF0.n6 Tryz.prog sortRow_ren :=
  { mixed := by kernel_rfl,
    f6 := ⟨Tryz.f178.name, by decide, Tryz.func178.trans (congrArg some (by kernel_rfl))⟩,
    f14 := ⟨Tryz.f184.name, by decide, Tryz.func184.trans (congrArg some (by kernel_rfl))⟩,
    f15 := Tryz.func185.trans (congrArg some (by kernel_rfl)),
    f20 := ⟨Tryz.f187.name, by decide, Tryz.func187.trans (congrArg some (by kernel_rfl))⟩,
    f21 := ⟨Tryz.f188.name, by decide, Tryz.func188.trans (congrArg some (by kernel_rfl))⟩,
    f22 := ⟨Tryz.f189.name, by decide, Tryz.func189.trans (congrArg some (by kernel_rfl))⟩,
    f23 := ⟨Tryz.f190.name, by decide, Tryz.func190.trans (congrArg some (by kernel_rfl))⟩,
    f24 := ⟨Tryz.f191.name, by decide, Tryz.func191.trans (congrArg some (by kernel_rfl))⟩,
    f25 := ⟨Tryz.f192.name, by decide, Tryz.func192.trans (congrArg some (by kernel_rfl))⟩,
    f26 := ⟨Tryz.f193.name, by decide, Tryz.func193.trans (congrArg some (by kernel_rfl))⟩,
    f27 := ⟨Tryz.f194.name, by decide, Tryz.func194.trans (congrArg some (by kernel_rfl))⟩,
    f28 := Tryz.func195.trans (congrArg some (by kernel_rfl)),
    f29 := Tryz.func196.trans (congrArg some (by kernel_rfl)),
    f46 := ⟨Tryz.f197.name, by decide, Tryz.func197.trans (congrArg some (by kernel_rfl))⟩,
    f47 := Tryz.func198.trans (congrArg some (by kernel_rfl)),
    f48 := Tryz.func199.trans (congrArg some (by kernel_rfl)),
    f49 := ⟨Tryz.f200.name, by decide, Tryz.func200.trans (congrArg some (by kernel_rfl))⟩,
    f50 := ⟨Tryz.f201.name, by decide, Tryz.func201.trans (congrArg some (by kernel_rfl))⟩,
    f57 := ⟨Tryz.f202.name, by decide, Tryz.func202.trans (congrArg some (by kernel_rfl))⟩,
    t0 := Tryz.underlying0,
    a0 := Tryz.isAgg0,
    z0 := Tryz.sizeOf0,
    v0 := Tryz.zeroValue0,
    t3 := Tryz.underlying3,
    a3 := Tryz.isAgg3,
    z3 := Tryz.sizeOf3,
    v3 := Tryz.zeroValue3,
    t4 := Tryz.underlying4,
    a4 := Tryz.isAgg4,
    z4 := Tryz.sizeOf4,
    v4 := Tryz.zeroValue4,
    t5 := Tryz.underlying5,
    a5 := Tryz.isAgg5,
    z5 := Tryz.sizeOf5,
    v5 := Tryz.zeroValue5,
    t9 := Tryz.underlying9,
    a9 := Tryz.isAgg9,
    z9 := Tryz.sizeOf9,
    v9 := Tryz.zeroValue9,
    t22 := Tryz.underlying40,
    a22 := Tryz.isAgg40,
    z22 := Tryz.sizeOf40,
    v22 := Tryz.zeroValue40,
    t25 := Tryz.underlying211,
    a25 := Tryz.isAgg211,
    z25 := Tryz.sizeOf211,
    v25 := Tryz.zeroValue211,
    t39 := Tryz.underlying233,
    a39 := Tryz.isAgg233,
    z39 := Tryz.sizeOf233,
    v39 := Tryz.zeroValue233,
    t45 := Tryz.underlying235,
    a45 := Tryz.isAgg235,
    z45 := Tryz.sizeOf235,
    v45 := Tryz.zeroValue235,
    t46 := Tryz.underlying236,
    a46 := Tryz.isAgg236,
    z46 := Tryz.sizeOf236,
    v46 := Tryz.zeroValue236,
    t50 := Tryz.underlying240,
    a50 := Tryz.isAgg240,
    z50 := Tryz.sizeOf240,
    v50 := Tryz.zeroValue240,
    t53 := Tryz.underlying243,
    a53 := Tryz.isAgg243,
    z53 := Tryz.sizeOf243,
    v53 := Tryz.zeroValue243,
    t55 := Tryz.underlying245,
    a55 := Tryz.isAgg245,
    z55 := Tryz.sizeOf245,
    v55 := Tryz.zeroValue245,
    t66 := Tryz.underlying246,
    a66 := Tryz.isAgg246,
    z66 := Tryz.sizeOf246,
    v66 := Tryz.zeroValue246,
    t70 := Tryz.underlying250,
    a70 := Tryz.isAgg250,
    z70 := Tryz.sizeOf250,
    v70 := Tryz.zeroValue250,
    t76 := Tryz.underlying252,
    a76 := Tryz.isAgg252,
    z76 := Tryz.sizeOf252,
    v76 := Tryz.zeroValue252,
    t77 := Tryz.underlying139,
    a77 := Tryz.isAgg139,
    z77 := Tryz.sizeOf139,
    v77 := Tryz.zeroValue139 }
end Go.Proofs.YtmkjlhplgcifiaaGreat
namespace Go.Proofs.YtmkjlhplgcifiaaGreat
open Go.ChangeShapes Go.WideShapes Go.ChangeAt Go.RowKit
set_option linter.unusedVariables false
set_option linter.unusedSimpArgs false

abbrev rowInh : Inhabited DRow := ⟨⟨0, 0, 0, 0, 0, 0, 0, false⟩⟩
theorem encRow_len (x : DRow) : (encRow x).length = 8 := rfl
theorem encRow_one (x : DRow) : ∀ v ∈ encRow x, v.oneCell' = true := by
  intro v hv
  simp [encRow] at hv
  rcases hv with rfl | rfl | rfl | rfl | rfl | rfl | rfl | rfl <;> rfl
theorem cmpLays_row (blk off size : Nat) (w : World) : letI := rowInh; Go.Proofs.CmpLays Tryz.prog 165 #[] encRow 8 cmpRow blk off size w := by
  letI := rowInh
  intro m os dk _ x y
  exact cmpRow_any x y _

theorem holds_own {w : World} {base g cap : Nat} {e : TypeId} {l : List DRow} (ho : w.ownsRow base e 8 (.slice (some ⟨g, 0, none⟩) l.length cap) l.length (l.flatMap encRow)) : letI := rowInh; Go.Sort.HoldsK encRow 8 w g 0 l.toArray := by
  letI := rowInh
  intro j hj
  have hj' : j < l.length * 8 := by simpa using hj
  have hi : j / 8 < l.length := by omega
  have hx : l[j / 8]? = some l[j / 8] := List.getElem?_eq_getElem hi
  have hm : j % 8 < 8 := Nat.mod_lt _ (by omega)
  have h1 := oflat_get (k := 8) encRow_len l (j / 8) l[j / 8] (j % 8) hx hm
  have h2 : j / 8 * 8 + j % 8 = j := Nat.div_add_mod' j 8
  rw [h2] at h1
  obtain ⟨u, hu⟩ : ∃ u, (encRow l[j / 8])[j % 8]? = some u := ⟨(encRow l[j / 8])[j % 8]'(by rw [encRow_len]; exact hm), List.getElem?_eq_getElem (by rw [encRow_len]; exact hm)⟩
  have hfl : id (Go.Sort.flatK encRow 8 l.toArray)[j]! = u := by
    rw [id, Go.Sort.get_flatK _ _ _ _ hj']
    rw [getElem!_pos l.toArray (j / 8) (by simpa using hi)]
    rw [List.getElem!_eq_getElem?_getD]
    simp only [List.getElem_toArray]
    rw [hu]; rfl
  have hcell := ho.cells (g := g) rfl j u (h1.trans hu)
  rw [show ((⟨g, 0, none⟩ : Addr).add j) = ⟨g, j, none⟩ by unfold Addr.add; split <;> simp_all] at hcell
  rw [hfl, Nat.zero_add]
  refine ⟨hcell, ?_⟩
  rcases ho.2 with ⟨h, _⟩ | ⟨g', cap', cur, h, _, hb, _⟩
  · cases h
  · cases h
    simp [World.frozen?, hb]

theorem perm_of_in {d d' : Array DRow} (h : letI := rowInh; Go.Sort.PermIn 0 d.size d d') : d'.toList.Perm d.toList := by
  obtain ⟨hs, _, hp⟩ := h
  have e1 : d'.extract 0 d.size = d' := by rw [← hs]; exact Array.extract_size
  have e2 : d.extract 0 d.size = d := Array.extract_size
  rwa [e1, e2] at hp

theorem sorted_grown {w : World} {g n : Nat} {os : Array Obj} (d : Array DRow) : letI := rowInh; w.grownBy (sortWorldK encRow 8 w g 0 n d os) (some g) := by
  letI := rowInh
  refine ⟨rfl, rfl, rfl, by simp [sortWorldK, Go.Sort.putRowK, Go.Sort.putRow, Go.Sort.mapBlock, Go.Sort.ahead, Go.Sort.grow], fun k hk hne => ?_⟩
  have hgk : g ≠ k := fun e => hne (by rw [e])
  unfold sortWorldK
  rw [Go.Sort.heap_grow_old _ _ (by simpa [Go.Sort.putRowK, Go.Sort.putRow, Go.Sort.mapBlock, Go.Sort.ahead] using hk)]
  simp [Go.Sort.putRowK, Go.Sort.putRow, Go.Sort.mapBlock, Go.Sort.ahead, Array.getElem?_modify, hgk]

theorem sortRows_any (l : List DRow) (base g cap : Nat) (w : World) (ho : w.ownsRow base 49 8 (.slice (some ⟨g, 0, none⟩) l.length cap) l.length (l.flatMap encRow)) (hB : base ≤ w.heap.size) (hl : l.length * 64 ≤ 140737488351232) :
    Calls Tryz.prog 178 #[.slice (some ⟨g, 0, none⟩) l.length cap, .func (.func 165) #[] #[]] w fun e w' => e = .returned (.tuple #[]) ∧ ∃ l', l'.Perm l ∧ rdRows w'.heap.size w' (some ⟨g, 0, none⟩) l' ∧ Below base w w' := by
  letI := rowInh
  have hg := ho.lt g rfl
  have eg : ∀ args w, (callFunc 165 args).run Tryz.prog w = .ok (.enter 165 args) w := enters_of Tryz.func165 (by kernel_rfl) rfl
  have hH := holds_own ho
  have hcon := AnyQ.slices_SortFunc sortRow 8 Tryz.isAgg49 Tryz.sizeOf49 encRow encRow_len encRow_one cmpRow swoRow 165 #[] g 0 cap l.toArray w eg (cmpLays_row g 0 _ w) hH hg.2 (by simp; omega)
  have hcon' : Calls Tryz.prog 178 #[.slice (some ⟨g, 0, none⟩) l.length cap, .func (.func 165) #[] #[]] w _ := hcon
  refine hcon'.mono ?_
  rintro e w' ⟨rfl, d', n, os, hp, _, hw⟩
  have hsz : d'.size = l.toArray.size := hp.1
  have hgr : w.grownBy w' (some g) := by rw [hw]; exact sorted_grown d'
  have hH' : Go.Sort.HoldsK encRow 8 w' g 0 d' := Go.Proofs.SWK.holds ⟨n, os, hw⟩ hg.2 hH hsz
  have hpl : d'.toList.Perm l := perm_of_in hp
  refine ⟨rfl, d'.toList, hpl, ⟨by rw [hpl.length_eq]; exact hl, fun i x hx => ⟨g, 0, rfl, Nat.lt_of_lt_of_le hg.2 hgr.size, ?_⟩⟩, (Below.refl base w).grown hgr hB (fun k hk => by cases hk; exact hg.1)⟩
  obtain ⟨hi, hxi⟩ := List.getElem?_eq_some_iff.1 hx
  have hi' : i < d'.size := by simpa using hi
  have hc := fun c v (hv : (encRow x)[c]? = some v) => Go.Proofs.HoldsK.cells hH' encRow_len hi' c v (by rw [getElem!_pos d' i hi']; simpa [← hxi] using hv)
  have hc' : ∀ c v, (encRow x)[c]? = some v → w'.cell? ⟨g, 0 + i * 8 + c, none⟩ = some v := fun c v hv => by
    have := hc c v hv
    rwa [show ((⟨g, 0 + i * 8, none⟩ : Addr).add c) = ⟨g, 0 + i * 8 + c, none⟩ by unfold Addr.add; split <;> simp_all] at this
  exact ⟨hc' 0 _ rfl, hc' 1 _ rfl, hc' 2 _ rfl, hc' 3 _ rfl, hc' 4 _ rfl, hc' 5 _ rfl, hc' 6 _ rfl, hc' 7 _ rfl⟩

end Go.Proofs.YtmkjlhplgcifiaaGreat
