/-
  slices.Values and slices.Collect at rows: a list of its own with the same rows.
-/
import Derived.Test.YtmkjlhplgcifiaaGreatJ20
import Derived.Test.YtmkjlhplgcifiaaGreatJ08
import Derived.Test.YtmkjlhplgcifiaaGreatRows
import Derived.RangeFuncNested
import Derived.RangeFuncLeaves
import Derived.RangeFuncBox
import Derived.OwnWalkIn
import Derived.TacticsInMore
import Derived.LoopNIn
import Derived.LoopIn
import Derived.Maps.AppendAt
namespace Go.Proofs.YtmkjlhplgcifiaaGreat
open Go.ChangeShapes Go.WideShapes Go.ChangeAt Go.RowKit
attribute [local go_sem] Oper.semAt_some
set_option linter.unusedVariables false
set_option linter.unusedSimpArgs false
def eRow (_B : Nat) (w : World) (b o : Nat) (x : DRow) : Prop :=
  w.cell? ⟨b, o, none⟩ = some (.int .i64 x.sb) ∧ w.cell? ⟨b, o + 1, none⟩ = some (.int .i64 x.sn) ∧ w.cell? ⟨b, o + 2, none⟩ = some (.int .i64 x.db) ∧ w.cell? ⟨b, o + 3, none⟩ = some (.int .i64 x.dn) ∧
  w.cell? ⟨b, o + 4, none⟩ = some (.int .i64 x.proto) ∧ w.cell? ⟨b, o + 5, none⟩ = some (.int .i64 x.lo) ∧ w.cell? ⟨b, o + 6, none⟩ = some (.int .i64 x.hi) ∧ w.cell? ⟨b, o + 7, none⟩ = some (.bool x.allow)
abbrev rdRows (B : Nat) (w : World) (a : Option Addr) (l : List DRow) : Prop := RdSl B w 8 64 eRow a l
theorem eRow.ext {B : Nat} {w w' : World} (B' : Nat) (hw : Below B w w') {b o : Nat} {x : DRow} (hb : b < B) (h : eRow B w b o x) : eRow B' w' b o x := by
  unfold eRow at *; simp only [hw.cell (p := ⟨b, _, none⟩) hb]; exact h
theorem rdRows.ext {B B' : Nat} {w w' : World} (hw : Below B w w') (hB : B ≤ B') {a : Option Addr} {l : List DRow} (h : rdRows B w a l) : rdRows B' w' a l := RdSl.ext h hB fun _ _ _ hb => eRow.ext _ hw hb
theorem rdRows.to {w w' : World} {a : Option Addr} {l : List DRow} (h : rdRows w.heap.size w a l) (hb : Below w.heap.size w w') : rdRows w'.heap.size w' a l := rdRows.ext hb hb.size h
theorem own_rows {w : World} {base : Nat} {e : TypeId} {v : Value} {l : List DRow} (h : w.ownsRow base e 8 v l.length (l.flatMap encRow)) (hy : l.length * 64 ≤ 140737488351232) : ∃ a c, v = .slice a l.length c ∧ l.length ≤ c ∧ rdRows w.heap.size w a l :=
  own_rd (fun _ => rfl) h (by decide) hy fun b o x _ _ hc => ⟨hc 0 _ rfl, hc 1 _ rfl, hc 2 _ rfl, hc 3 _ rfl, hc 4 _ rfl, hc 5 _ rfl, hc 6 _ rfl, hc 7 _ rfl⟩
theorem info_row : (Tryz.prog.info? 49).map (fun i => (i.zero, i.size, i.bytes)) = some (some (.agg #[.int .i64 0, .int .i64 0, .int .i64 0, .int .i64 0, .int .i64 0, .int .i64 0, .int .i64 0, .bool false]), 8, 64) := by kernel_rfl
set_option maxRecDepth 100000 in
set_option maxHeartbeats 2000000 in
theorem rvalues1_in (F : Fence) (n : Nat) (hf : F.fn 179) (hro : F.round = none) (hn : 1 ≤ n) (l Bs n₀ : Nat) (a : Option Addr) (cap : Nat) (zs : List DRow) (J Jx : List DRow → World → Prop)
    (W : World) (hJ : ∀ pre W o, J pre W → J pre (W.alloc o)) (hn0 : n₀ ≤ W.heap.size)
    (hY : ∀ pre x W, J pre W → pre.length < zs.length → YieldAt F (n - 1) Tryz.prog l #[.agg #[.int .i64 x.sb, .int .i64 x.sn, .int .i64 x.db, .int .i64 x.dn, .int .i64 x.proto, .int .i64 x.lo, .int .i64 x.hi, .bool x.allow]] W fun e W' =>
      (e = .returned (.bool true) ∧ J (pre ++ [x]) W' ∧ Below n₀ W W') ∨ (e = .returned (.bool false) ∧ Jx (pre ++ [x]) W'))
    (hBs : W.cell? ⟨Bs, 0, none⟩ = some (.slice a zs.length cap)) (hc : rdRows n₀ W a zs) (h0 : J [] W) :
    CallsIn F n Tryz.prog 179 #[.func (.yield l) #[] #[], .pointer (some ⟨Bs, 0, none⟩)] W fun e W' => (∃ v, e = .returned v) ∧
      ((∃ ys, ys = zs ∧ J ys W') ∨ (∃ pre, pre <+: zs ∧ Jx pre W')) := by
  obtain ⟨hlen, hc⟩ := hc
  have HC := hid hc
  have HY := hid hY
  have HJ := hid hJ
  clear hc hY hJ
  refine callsIn_of_wp Tryz.func179 rfl hf ?_ hro
  simp only [Tryz.ntmps179, List.size_toArray, List.length_cons, List.length_nil, Nat.reduceAdd, Nat.reduceSub, Array.replicate_succ, Array.replicate_zero, List.push_toArray, List.append_toArray, List.nil_append, List.cons_append]
  gi_wp2
  gi_loopw [7] (fun i wr => ∃ k : Nat, k ≤ zs.length ∧ i = .int .i64 k ∧ J (zs.take k) wr ∧ Below n₀ W wr) (fun i _ => zs.length - (intOf i).toNat)
  case atStart => exact ⟨0, Nat.zero_le _, rfl, h0, Below.refl _ _⟩
  case round =>
    obtain ⟨k, hk, rfl, hJs, hnx⟩ := hrel
    by_cases hlt : k < zs.length
    · obtain ⟨x, hxk⟩ : ∃ x, zs[k]? = some x := ⟨zs[k], by simp [hlt]⟩
      have HX := hid hxk
      clear hxk
      obtain ⟨b, off, rfl, hb, c0, c1, c2, c3, c4, c5, c6, c7⟩ := HC.out k x HX.out
      have d0 := (hnx.cell (p := ⟨b, off + k * 8, none⟩) hb).trans c0
      have d1 := (hnx.cell (p := ⟨b, off + k * 8 + 1, none⟩) hb).trans c1
      have d2 := (hnx.cell (p := ⟨b, off + k * 8 + 2, none⟩) hb).trans c2
      have d3 := (hnx.cell (p := ⟨b, off + k * 8 + 3, none⟩) hb).trans c3
      have d4 := (hnx.cell (p := ⟨b, off + k * 8 + 4, none⟩) hb).trans c4
      have d5 := (hnx.cell (p := ⟨b, off + k * 8 + 5, none⟩) hb).trans c5
      have d6 := (hnx.cell (p := ⟨b, off + k * 8 + 6, none⟩) hb).trans c6
      have d7 := (hnx.cell (p := ⟨b, off + k * 8 + 7, none⟩) hb).trans c7
      have hns : n₀ ≤ wr.heap.size := Nat.le_trans hn0 hnx.size
      obtain ⟨fn, tmps, assign, body, hy, hR⟩ := HY.out _ x _ (HJ.out _ _ (.cells #[.int .i64 x.sb, .int .i64 x.sn, .int .i64 x.db, .int .i64 x.dn, .int .i64 x.proto, .int .i64 x.lo, .int .i64 x.hi, .bool x.allow] 49) hJs) (by rw [List.length_take]; omega)
      gi_wp2
      refine hR.mono ?_
      rintro e W3 (⟨rfl, hJ3, hk3⟩ | ⟨rfl, hJx3⟩)
      · gi_wp2
        go_roundw
        case rel => exact ⟨k + 1, by omega, by simp, by rw [List.take_add_one, HX.out]; exact hJ3, (hnx.alloc hns _).trans hk3⟩
        case measure => simp [intOf]; omega
      · gi_wp2
        refine bodyPost_ret (results_none rfl _ _ _) rfl ?_
        exact ⟨⟨_, rfl⟩, .inr ⟨_, ⟨zs.drop (k + 1), by
          have : zs.take k ++ [x] = zs.take (k + 1) := by rw [List.take_add_one, HX.out]; rfl
          rw [this, List.take_append_drop]⟩, hJx3⟩⟩
    · gi_wp2
      go_end0
      exact ⟨⟨_, rfl⟩, .inl ⟨_, rfl, by rwa [List.take_of_length_le (by omega)] at hJs⟩⟩
theorem rvalues_any (a : Option Addr) (n c : Nat) (w : World) : Calls Tryz.prog 164 #[.slice a n c] w fun e w' => e = .returned (.func (.func 179) #[] #[.pointer (some ⟨w.heap.size, 0, none⟩)]) ∧ w' = w.alloc (.cells #[.slice a n c] 40) := by
  go_enter Tryz.func164, Tryz.ntmps164
  go_wp2
  go_ret
  exact ⟨rfl, rfl⟩
theorem cell_of_heap {W : World} {B : Nat} {cs : Array Value} {t : TypeId} (h : W.heap[B]? = some (.cells cs t (0, 0))) (j : Nat) : W.cell? ⟨B, j, none⟩ = cs[j]? := by simp [World.cell?, h]
theorem own_block {β : Type} (B : Nat) (cs : β → Array Value) (t : TypeId) : Own (fun s W => W.heap[B]? = some (.cells (cs s) t (0, 0))) := by
  intro s X Y row h hg hrow
  rw [hg.block B (Array.getElem?_eq_some_iff.1 h).1 (fun e' => ?_)]
  · exact h
  · obtain ⟨o, ho, hc⟩ := hrow B e'.symm
    rw [h] at ho; cases ho; cases hc
set_option maxRecDepth 100000 in
set_option maxHeartbeats 4000000 in
theorem appendSeq_in (F : Fence) (n : Nat) (hA : F.fn 183) (hV : F.fn 179) (hro : F.round = none) (hn : 4 ≤ n) (a : Option Addr) (cap Bs : Nat) (zs : List DRow) (w : World)
    (hBs : w.cell? ⟨Bs, 0, none⟩ = some (.slice a zs.length cap)) (hc : rdRows w.heap.size w a zs) :
    CallsIn F n Tryz.prog 183 #[.slice none 0 0, .func (.func 179) #[] #[.pointer (some ⟨Bs, 0, none⟩)]] w fun e W' => ∃ v, e = .returned v ∧ W'.ownsRow w.heap.size 49 8 v zs.length (zs.flatMap encRow) ∧ Below w.heap.size w W' := by
  have h1 : 1 ≤ n := by omega
  have hlen := hc.1
  have HC := hid hc
  have HBs := hid hBs
  clear hc hBs
  obtain ⟨i0, hi, iz0, iz1, iz2⟩ := info_parts info_row
  refine callsIn_of_wp_marks Tryz.func183 rfl hA ?_ hro
  simp only [Tryz.ntmps183, List.size_toArray, List.length_cons, List.length_nil, Nat.reduceAdd, Nat.reduceSub, Array.replicate_succ, Array.replicate_zero, List.push_toArray, List.append_toArray, List.nil_append, List.cons_append]
  gi_wp2
  have bO := Boxed.new w 40 (.slice none 0 0)
  have hB0 : Below w.heap.size w (w.alloc (.cells #[.slice none 0 0] 40)) := (Below.refl _ w).alloc (Nat.le_refl _) _
  have hsz : (w.alloc (.cells #[.slice none 0 0] 40)).heap.size = w.heap.size + 1 := by simp
  have hBl := World.block_lt_of_cell? w ⟨Bs, 0, none⟩ HBs.out
  obtain ⟨W0, hW0⟩ : ∃ W0, w.alloc (.cells #[.slice none 0 0] 40) = W0 := ⟨_, rfl⟩
  rw [hW0] at bO hB0 hsz ⊢
  clear hW0
  have hcB : W0.cell? ⟨Bs, 0, none⟩ = some (.slice a zs.length cap) := (hB0.cell (p := ⟨Bs, 0, none⟩) hBl).trans HBs.out
  have HR := hid (rdRows.ext hB0 (Nat.le_refl _) HC.out)
  refine wpIn_rangeFunc_ownH hro h1 (gf := 179) (lb := #[.pointer (some ⟨Bs, 0, none⟩)]) rfl hV (enters_of Tryz.func179 (by kernel_rfl) rfl)
    (encs := fun x : DRow => #[.agg #[.int .i64 x.sb, .int .i64 x.sn, .int .i64 x.db, .int .i64 x.dn, .int .i64 x.proto, .int .i64 x.lo, .int .i64 x.hi, .bool x.allow]]) (Kp := Below w.heap.size) (S := fun ys => ys = zs) (Sp := fun pre => pre <+: zs) (N := zs.length) (w0 := W0)
    (fun l J Jx W hW hJ hJx hY h0 => rvalues1_in F (n - 1) hV hro (by omega) l Bs w.heap.size a cap zs J Jx W (fun pre W' o hj => hJ pre W' _ none hj (World.grownBy_alloc W' o none) (fun r e => by cases e)) (by have := hW.size; omega) hY
      ((hW.cell (p := ⟨Bs, 0, none⟩) (by omega)).trans hcB) (rdRows.ext (hW.mono (by omega)) (Nat.le_refl _) HR.out) h0)
    belowK_t (belowK_b (by omega)) (Below.refl _ _) (fun _ => rfl)
    (fun pre W => (∃ v, Boxed W w.heap.size 40 v ∧ W.ownsRow w.heap.size 49 8 v pre.length (pre.flatMap encRow) ∧ True) ∧ Below w.heap.size w W)
    (fun _ _ _ => False)
    (OwnFrom.and (Own.from (holdsRow_own w.heap.size w.heap.size 40 49 8 (fun pre : List DRow => pre.length) (fun pre => pre.flatMap encRow) (fun _ _ => True)) _) (ownFrom_below (Nat.le_refl _) (by omega)))
    (fun _ _ _ _ _ hs _ _ => hs)
    ⟨⟨_, bO, World.ownsRow_nil _ _ _ _, trivial⟩, hB0⟩
    (fun x a' W => ∃ Bx, w.heap.size < Bx ∧ W.heap[Bx]? = some (.cells #[.int .i64 x.sb, .int .i64 x.sn, .int .i64 x.db, .int .i64 x.dn, .int .i64 x.proto, .int .i64 x.lo, .int .i64 x.hi, .bool x.allow] 49 (0, 0)) ∧ a' = { tmps := #[.slice none 0 0, .func (.func 179) #[] #[.pointer (some ⟨Bs, 0, none⟩)], .pointer (some ⟨w.heap.size, 0, none⟩), undef, .slice none 0 0, .pointer (some ⟨Bx, 0, none⟩), .func (.func 179) #[] #[.pointer (some ⟨Bs, 0, none⟩)], .agg #[.int .i64 x.sb, .int .i64 x.sn, .int .i64 x.db, .int .i64 x.dn, .int .i64 x.proto, .int .i64 x.lo, .int .i64 x.hi, .bool x.allow], undef, undef, undef, undef, undef], defers := [] })
    (fun x a' _ X Y row hs hg hr => by obtain ⟨Bx, h1, h2, h3⟩ := hs; exact ⟨Bx, h1, own_block Bx (fun _ : Unit => #[.int .i64 x.sb, .int .i64 x.sn, .int .i64 x.db, .int .i64 x.dn, .int .i64 x.proto, .int .i64 x.lo, .int .i64 x.hi, .bool x.allow]) 49 () X Y row h2 hg (fun r e => (hr r e).2), h3⟩)
    ?assign ?body ?done ?stop
  case assign =>
    rintro l pre x W K ⟨⟨v, hv, hrow, _⟩, hB1⟩ hK
    gi_wp2
    exact hK _ _ ((KeepsOthers.alloc _ _).from _) ((Below.refl _ W).alloc hB1.size _) ⟨⟨v, hv.alloc _, hrow.alloc _, trivial⟩, hB1.alloc hB1.size _⟩ ⟨W.heap.size, hv.lt, World.alloc_heap_new W _, rfl⟩
  case body =>
    rintro l pre x a' W hl _ ⟨⟨v, hv, hrow, _⟩, hB1⟩ ⟨Bx, hBx, bX, rfl⟩ hlt
    have hc := hv.cell
    have x0 := cell_of_heap bX 0
    have x1 := cell_of_heap bX 1
    have x2 := cell_of_heap bX 2
    have x3 := cell_of_heap bX 3
    have x4 := cell_of_heap bX 4
    have x5 := cell_of_heap bX 5
    have x6 := cell_of_heap bX 6
    have x7 := cell_of_heap bX 7
    have hzl : pre.length * 64 + 64 ≤ 140737488351232 := by omega
    simp only [List.getElem?_toArray, List.getElem?_cons_zero, List.getElem?_cons_succ] at x0 x1 x2 x3 x4 x5 x6 x7
    have HRW := hid hrow
    have HBX := hid bX
    have HV := hid hv
    clear hrow bX
    gi_wp2_with (gi_at_builtin; refine wpListIn_append_own _ rfl _ _ 40 rfl w.heap.size 49 i0 _ 8 64 Tryz.underlying40 hi iz0 iz1 iz2 rfl (by decide) _ _ _ rfl (HRW.out.alloc _) ⟨W.heap.size, 0, none⟩ 1 1 [.int .i64 x.sb, .int .i64 x.sn, .int .i64 x.db, .int .i64 x.dn, .int .i64 x.proto, .int .i64 x.lo, .int .i64 x.hi, .bool x.allow] rfl rfl (cell_new_list _ [.int .i64 x.sb, .int .i64 x.sn, .int .i64 x.db, .int .i64 x.dn, .int .i64 x.proto, .int .i64 x.lo, .int .i64 x.hi, .bool x.allow] _) (fun u hu => by simp at hu; rcases hu with rfl | rfl | rfl | rfl | rfl | rfl | rfl | rfl <;> rfl) (by unfold maxLen; omega) (by omega) (by have := hB1.size; simp; omega) ?_; intro v' w1 hown' hgrow _; obtain ⟨g', cap', rfl⟩ := ownsRow_succ hown'; obtain ⟨hv1, hv2, hr2, hk2, hb2⟩ := HV.out.appended (by decide) HRW.out hB1.size (Nat.le_refl _) hown' hgrow; have hc1 := hv1.cell; have hf1 := hv1.frozen; have HZ := hid (And.intro hv2 (And.intro hr2 (And.intro hk2 hb2))); clear hv2 hr2 hk2 hb2 hown' hgrow hv1)
    exact ⟨HZ.out.2.2.1.from _, HZ.out.2.2.2, ⟨_, HZ.out.1, by simpa [encRow] using HZ.out.2.1⟩, hB1.trans HZ.out.2.2.2⟩
  case done =>
    rintro D ys W hD rfl ⟨⟨v, hv, hrow, _⟩, hB1⟩ hK
    have hc := hv.cell
    gi_wp2
    refine ⟨by simp, .inl ⟨_, _, rfl, run_takeDeferred hK, ?_⟩⟩
    exact ⟨_, results_tmp rfl _ _ _, v, rfl, ownsRow_putObj hrow _ hK rfl, hB1.trans (belowK_b (w := w) (Nat.le_refl _) W D _ _ (by omega) hK rfl rfl)⟩
  case stop =>
    rintro D c pre W _ _ h _
    exact h.elim
theorem collect_any (a : Option Addr) (cap Bs : Nat) (zs : List DRow) (w : World) (hBs : w.cell? ⟨Bs, 0, none⟩ = some (.slice a zs.length cap)) (hc : rdRows w.heap.size w a zs) :
    Calls Tryz.prog 177 #[.func (.func 179) #[] #[.pointer (some ⟨Bs, 0, none⟩)]] w fun e W' => ∃ v, e = .returned v ∧ W'.ownsRow w.heap.size 49 8 v zs.length (zs.flatMap encRow) ∧ Below w.heap.size w W' := by
  have HC := hid hc
  clear hc
  go_enter Tryz.func177, Tryz.ntmps177
  go_wp2_with (go_at_call 183; refine ((callsIn_wide (n := 6)).1 (appendSeq_in Fence.wide 6 trivial trivial rfl (by decide) a cap Bs zs _ hBs HC.out)).mono ?_; rintro e w' ⟨v, rfl, ho, hb⟩; have HO := hid ho; clear ho)
  go_ret
  exact ⟨v, rfl, HO.out, hb⟩
end Go.Proofs.YtmkjlhplgcifiaaGreat
