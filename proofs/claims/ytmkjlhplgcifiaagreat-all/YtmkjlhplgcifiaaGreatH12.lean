/-
  slices.Values and slices.Collect at rows: a list of its own with the same rows.
-/
import Derived.Test.YtmkjlhplgcifiaaGreatH11
import Derived.Test.YtmkjlhplgcifiaaGreatH04
import Derived.Test.YtmkjlhplgcifiaaGreatH05
import Derived.Test.YtmkjlhplgcifiaaGreatH03
import Derived.Test.YtmkjlhplgcifiaaGreatRows
import Derived.RangeFuncNested
import Derived.RangeFuncLeaves
import Derived.RangeFuncBox
import Derived.OwnWalkIn
import Derived.TacticsInMore
import Derived.LoopNIn
import Derived.LoopIn
import Derived.Maps.AppendAt
namespace Go.Proofs.YtmkjlhplgcifiaaGreat
open Go.ChangeShapes Go.WideShapes Go.ChangeAt Go.RowKit
set_option linter.unusedVariables false
set_option linter.unusedSimpArgs false
attribute [local go_sem] Oper.semAt_some
def eRow (_B : Nat) (w : World) (b o : Nat) (x : DRow) : Prop :=
  w.cell? ⟨b, o, none⟩ = some (.int .i64 x.sb) ∧ w.cell? ⟨b, o + 1, none⟩ = some (.int .i64 x.sn) ∧ w.cell? ⟨b, o + 2, none⟩ = some (.int .i64 x.db) ∧ w.cell? ⟨b, o + 3, none⟩ = some (.int .i64 x.dn) ∧
  w.cell? ⟨b, o + 4, none⟩ = some (.int .i64 x.proto) ∧ w.cell? ⟨b, o + 5, none⟩ = some (.int .i64 x.lo) ∧ w.cell? ⟨b, o + 6, none⟩ = some (.int .i64 x.hi) ∧ w.cell? ⟨b, o + 7, none⟩ = some (.bool x.allow)
abbrev rdRows (B : Nat) (w : World) (a : Option Addr) (l : List DRow) : Prop := RdSl B w 8 64 eRow a l
theorem eRow.ext {B : Nat} {w w' : World} (B' : Nat) (hw : Below B w w') {b o : Nat} {x : DRow} (hb : b < B) (h : eRow B w b o x) : eRow B' w' b o x := by
  unfold eRow at *; simp only [hw.cell (p := ⟨b, _, none⟩) hb]; exact h
theorem rdRows.ext {B B' : Nat} {w w' : World} (hw : Below B w w') (hB : B ≤ B') {a : Option Addr} {l : List DRow} (h : rdRows B w a l) : rdRows B' w' a l := RdSl.ext h hB fun _ _ _ hb => eRow.ext _ hw hb
theorem rdRows.to {w w' : World} {a : Option Addr} {l : List DRow} (h : rdRows w.heap.size w a l) (hb : Below w.heap.size w w') : rdRows w'.heap.size w' a l := rdRows.ext hb hb.size h
theorem own_rows {w : World} {base : Nat} {e : TypeId} {v : Value} {l : List DRow} (h : w.ownsRow base e 8 v l.length (l.flatMap encRow)) (hy : l.length * 64 ≤ 140737488351232) : ∃ a c, v = .slice a l.length c ∧ l.length ≤ c ∧ rdRows w.heap.size w a l :=
  own_rd (fun _ => rfl) h (by decide) hy fun b o x _ _ hc => ⟨hc 0 _ rfl, hc 1 _ rfl, hc 2 _ rfl, hc 3 _ rfl, hc 4 _ rfl, hc 5 _ rfl, hc 6 _ rfl, hc 7 _ rfl⟩
theorem info_row : (Tryz.prog.info? 49).map (fun i => (i.zero, i.size, i.bytes)) = some (some (.agg #[.int .i64 0, .int .i64 0, .int .i64 0, .int .i64 0, .int .i64 0, .int .i64 0, .int .i64 0, .bool false]), 8, 64) := by kernel_rfl
set_option maxRecDepth 100000 in
set_option maxHeartbeats 2000000 in
theorem rvalues1_in (F : Fence) (n : Nat) (hf : F.fn 179) (hro : F.round = none) (hn : 1 ≤ n) (l Bs n₀ : Nat) (a : Option Addr) (cap : Nat) (zs : List DRow) (J Jx : List DRow → World → Prop)
    (W : World) (hJ : ∀ pre W o, J pre W → J pre (W.alloc o)) (hn0 : n₀ ≤ W.heap.size)
    (hY : ∀ pre x W, J pre W → pre.length < zs.length → YieldAt F (n - 1) Tryz.prog l #[.agg #[.int .i64 x.sb, .int .i64 x.sn, .int .i64 x.db, .int .i64 x.dn, .int .i64 x.proto, .int .i64 x.lo, .int .i64 x.hi, .bool x.allow]] W fun e W' =>
      (e = .returned (.bool true) ∧ J (pre ++ [x]) W' ∧ Below n₀ W W') ∨ (e = .returned (.bool false) ∧ Jx (pre ++ [x]) W'))
    (hBs : W.cell? ⟨Bs, 0, none⟩ = some (.slice a zs.length cap)) (hc : rdRows n₀ W a zs) (h0 : J [] W) :
    CallsIn F n Tryz.prog 179 #[.func (.yield l) #[] #[], .pointer (some ⟨Bs, 0, none⟩)] W fun e W' => (∃ v, e = .returned v) ∧
      ((∃ ys, ys = zs ∧ J ys W') ∨ (∃ pre, pre <+: zs ∧ Jx pre W')) := by
  obtain ⟨hlen, hc⟩ := hc
  have HC := hid hc
  have HY := hid hY
  have HJ := hid hJ
  clear hc hY hJ
  refine callsIn_of_wp Tryz.func179 rfl hf ?_ hro
  simp only [Tryz.ntmps179, List.size_toArray, List.length_cons, List.length_nil, Nat.reduceAdd, Nat.reduceSub, Array.replicate_succ, Array.replicate_zero, List.push_toArray, List.append_toArray, List.nil_append, List.cons_append]
  gi_wp2
  gi_loopw [7] (fun i wr => ∃ k : Nat, k ≤ zs.length ∧ i = .int .i64 k ∧ J (zs.take k) wr ∧ Below n₀ W wr) (fun i _ => zs.length - (intOf i).toNat)
  case atStart => exact ⟨0, Nat.zero_le _, rfl, h0, Below.refl _ _⟩
  case round =>
    obtain ⟨k, hk, rfl, hJs, hnx⟩ := hrel
    by_cases hlt : k < zs.length
    · obtain ⟨x, hxk⟩ : ∃ x, zs[k]? = some x := ⟨zs[k], by simp [hlt]⟩
      have HX := hid hxk
      clear hxk
      obtain ⟨b, off, rfl, hb, c0, c1, c2, c3, c4, c5, c6, c7⟩ := HC.out k x HX.out
      have d0 := (hnx.cell (p := ⟨b, off + k * 8, none⟩) hb).trans c0
      have d1 := (hnx.cell (p := ⟨b, off + k * 8 + 1, none⟩) hb).trans c1
      have d2 := (hnx.cell (p := ⟨b, off + k * 8 + 2, none⟩) hb).trans c2
      have d3 := (hnx.cell (p := ⟨b, off + k * 8 + 3, none⟩) hb).trans c3
      have d4 := (hnx.cell (p := ⟨b, off + k * 8 + 4, none⟩) hb).trans c4
      have d5 := (hnx.cell (p := ⟨b, off + k * 8 + 5, none⟩) hb).trans c5
      have d6 := (hnx.cell (p := ⟨b, off + k * 8 + 6, none⟩) hb).trans c6
      have d7 := (hnx.cell (p := ⟨b, off + k * 8 + 7, none⟩) hb).trans c7
      have hns : n₀ ≤ wr.heap.size := Nat.le_trans hn0 hnx.size
      obtain ⟨fn, tmps, assign, body, hy, hR⟩ := HY.out _ x _ (HJ.out _ _ (.cells #[.int .i64 x.sb, .int .i64 x.sn, .int .i64 x.db, .int .i64 x.dn, .int .i64 x.proto, .int .i64 x.lo, .int .i64 x.hi, .bool x.allow] 49) hJs) (by rw [List.length_take]; omega)
      gi_wp2
      refine hR.mono ?_
      rintro e W3 (⟨rfl, hJ3, hk3⟩ | ⟨rfl, hJx3⟩)
      · gi_wp2
        go_roundw
        case rel => exact ⟨k + 1, by omega, by simp, by rw [List.take_add_one, HX.out]; exact hJ3, (hnx.alloc hns _).trans hk3⟩
        case measure => simp [intOf]; omega
      · gi_wp2
        refine bodyPost_ret (results_none rfl _ _ _) rfl ?_
        exact ⟨⟨_, rfl⟩, .inr ⟨_, ⟨zs.drop (k + 1), by
          have : zs.take k ++ [x] = zs.take (k + 1) := by rw [List.take_add_one, HX.out]; rfl
          rw [this, List.take_append_drop]⟩, hJx3⟩⟩
    · gi_wp2
      go_end0
      exact ⟨⟨_, rfl⟩, .inl ⟨_, rfl, by rwa [List.take_of_length_le (by omega)] at hJs⟩⟩
theorem rvalues_any (a : Option Addr) (n c : Nat) (w : World) : Calls Tryz.prog 164 #[.slice a n c] w fun e w' => e = .returned (.func (.func 179) #[] #[.pointer (some ⟨w.heap.size, 0, none⟩)]) ∧ w' = w.alloc (.cells #[.slice a n c] 40) := by
  go_enter Tryz.func164, Tryz.ntmps164
  go_wp2
  go_ret
  exact ⟨rfl, rfl⟩
theorem cell_of_heap {W : World} {B : Nat} {cs : Array Value} {t : TypeId} (h : W.heap[B]? = some (.cells cs t (0, 0))) (j : Nat) : W.cell? ⟨B, j, none⟩ = cs[j]? := by simp [World.cell?, h]
theorem own_block {β : Type} (B : Nat) (cs : β → Array Value) (t : TypeId) : Own (fun s W => W.heap[B]? = some (.cells (cs s) t (0, 0))) := by
  intro s X Y row h hg hrow
  rw [hg.block B (Array.getElem?_eq_some_iff.1 h).1 (fun e' => ?_)]
  · exact h
  · obtain ⟨o, ho, hc⟩ := hrow B e'.symm
    rw [h] at ho; cases ho; cases hc
set_option maxRecDepth 100000 in
set_option maxHeartbeats 4000000 in
theorem appendSeq_in (F : Fence) (n : Nat) (hA : F.fn 183) (hV : F.fn 179) (hro : F.round = none) (hn : 4 ≤ n) (a : Option Addr) (cap Bs : Nat) (zs : List DRow) (w : World)
    (hBs : w.cell? ⟨Bs, 0, none⟩ = some (.slice a zs.length cap)) (hc : rdRows w.heap.size w a zs) :
    CallsIn F n Tryz.prog 183 #[.slice none 0 0, .func (.func 179) #[] #[.pointer (some ⟨Bs, 0, none⟩)]] w fun e W' => ∃ v, e = .returned v ∧ W'.ownsRow w.heap.size 49 8 v zs.length (zs.flatMap encRow) ∧ Below w.heap.size w W' := by
  have h1 : 1 ≤ n := by omega
  have hlen := hc.1
  have HC := hid hc
  have HBs := hid hBs
  clear hc hBs
  obtain ⟨i0, hi, iz0, iz1, iz2⟩ := info_parts info_row
  refine callsIn_of_wp_marks Tryz.func183 rfl hA ?_ hro
  simp only [Tryz.ntmps183, List.size_toArray, List.length_cons, List.length_nil, Nat.reduceAdd, Nat.reduceSub, Array.replicate_succ, Array.replicate_zero, List.push_toArray, List.append_toArray, List.nil_append, List.cons_append]
  gi_wp2
  have bO := Boxed.new w 40 (.slice none 0 0)
  have hB0 : Below w.heap.size w (w.alloc (.cells #[.slice none 0 0] 40)) := (Below.refl _ w).alloc (Nat.le_refl _) _
  have hsz : (w.alloc (.cells #[.slice none 0 0] 40)).heap.size = w.heap.size + 1 := by simp
  have hBl := World.block_lt_of_cell? w ⟨Bs, 0, none⟩ HBs.out
  obtain ⟨W0, hW0⟩ : ∃ W0, w.alloc (.cells #[.slice none 0 0] 40) = W0 := ⟨_, rfl⟩
  rw [hW0] at bO hB0 hsz ⊢
  clear hW0
  have hcB : W0.cell? ⟨Bs, 0, none⟩ = some (.slice a zs.length cap) := (hB0.cell (p := ⟨Bs, 0, none⟩) hBl).trans HBs.out
  have HR := hid (rdRows.ext hB0 (Nat.le_refl _) HC.out)
  refine wpIn_rangeFunc_ownH hro h1 (gf := 179) (lb := #[.pointer (some ⟨Bs, 0, none⟩)]) rfl hV (enters_of Tryz.func179 (by kernel_rfl) rfl)
    (encs := fun x : DRow => #[.agg #[.int .i64 x.sb, .int .i64 x.sn, .int .i64 x.db, .int .i64 x.dn, .int .i64 x.proto, .int .i64 x.lo, .int .i64 x.hi, .bool x.allow]]) (Kp := Below w.heap.size) (S := fun ys => ys = zs) (Sp := fun pre => pre <+: zs) (N := zs.length) (w0 := W0)
    (fun l J Jx W hW hJ hJx hY h0 => rvalues1_in F (n - 1) hV hro (by omega) l Bs w.heap.size a cap zs J Jx W (fun pre W' o hj => hJ pre W' _ none hj (World.grownBy_alloc W' o none) (fun r e => by cases e)) (by have := hW.size; omega) hY
      ((hW.cell (p := ⟨Bs, 0, none⟩) (by omega)).trans hcB) (rdRows.ext (hW.mono (by omega)) (Nat.le_refl _) HR.out) h0)
    belowK_t (belowK_b (by omega)) (Below.refl _ _) (fun _ => rfl)
    (fun pre W => (∃ v, Boxed W w.heap.size 40 v ∧ W.ownsRow w.heap.size 49 8 v pre.length (pre.flatMap encRow) ∧ True) ∧ Below w.heap.size w W)
    (fun _ _ _ => False)
    (OwnFrom.and (Own.from (holdsRow_own w.heap.size w.heap.size 40 49 8 (fun pre : List DRow => pre.length) (fun pre => pre.flatMap encRow) (fun _ _ => True)) _) (ownFrom_below (Nat.le_refl _) (by omega)))
    (fun _ _ _ _ _ hs _ _ => hs)
    ⟨⟨_, bO, World.ownsRow_nil _ _ _ _, trivial⟩, hB0⟩
    (fun x a' W => ∃ Bx, w.heap.size < Bx ∧ W.heap[Bx]? = some (.cells #[.int .i64 x.sb, .int .i64 x.sn, .int .i64 x.db, .int .i64 x.dn, .int .i64 x.proto, .int .i64 x.lo, .int .i64 x.hi, .bool x.allow] 49 (0, 0)) ∧ a' = { tmps := #[.slice none 0 0, .func (.func 179) #[] #[.pointer (some ⟨Bs, 0, none⟩)], .pointer (some ⟨w.heap.size, 0, none⟩), undef, .slice none 0 0, .pointer (some ⟨Bx, 0, none⟩), .func (.func 179) #[] #[.pointer (some ⟨Bs, 0, none⟩)], .agg #[.int .i64 x.sb, .int .i64 x.sn, .int .i64 x.db, .int .i64 x.dn, .int .i64 x.proto, .int .i64 x.lo, .int .i64 x.hi, .bool x.allow], undef, undef, undef, undef, undef], defers := [] })
    (fun x a' _ X Y row hs hg hr => by obtain ⟨Bx, h1, h2, h3⟩ := hs; exact ⟨Bx, h1, own_block Bx (fun _ : Unit => #[.int .i64 x.sb, .int .i64 x.sn, .int .i64 x.db, .int .i64 x.dn, .int .i64 x.proto, .int .i64 x.lo, .int .i64 x.hi, .bool x.allow]) 49 () X Y row h2 hg (fun r e => (hr r e).2), h3⟩)
    ?assign ?body ?done ?stop
  case assign =>
    rintro l pre x W K ⟨⟨v, hv, hrow, _⟩, hB1⟩ hK
    gi_wp2
    exact hK _ _ ((KeepsOthers.alloc _ _).from _) ((Below.refl _ W).alloc hB1.size _) ⟨⟨v, hv.alloc _, hrow.alloc _, trivial⟩, hB1.alloc hB1.size _⟩ ⟨W.heap.size, hv.lt, World.alloc_heap_new W _, rfl⟩
  case body =>
    rintro l pre x a' W hl _ ⟨⟨v, hv, hrow, _⟩, hB1⟩ ⟨Bx, hBx, bX, rfl⟩ hlt
    have hc := hv.cell
    have x0 := cell_of_heap bX 0
    have x1 := cell_of_heap bX 1
    have x2 := cell_of_heap bX 2
    have x3 := cell_of_heap bX 3
    have x4 := cell_of_heap bX 4
    have x5 := cell_of_heap bX 5
    have x6 := cell_of_heap bX 6
    have x7 := cell_of_heap bX 7
    have hzl : pre.length * 64 + 64 ≤ 140737488351232 := by omega
    simp only [List.getElem?_toArray, List.getElem?_cons_zero, List.getElem?_cons_succ] at x0 x1 x2 x3 x4 x5 x6 x7
    have HRW := hid hrow
    have HBX := hid bX
    have HV := hid hv
    clear hrow bX
    gi_wp2_with (gi_at_builtin; refine wpListIn_append_own _ rfl _ _ 40 rfl w.heap.size 49 i0 _ 8 64 Tryz.underlying40 hi iz0 iz1 iz2 rfl (by decide) _ _ _ rfl (HRW.out.alloc _) ⟨W.heap.size, 0, none⟩ 1 1 [.int .i64 x.sb, .int .i64 x.sn, .int .i64 x.db, .int .i64 x.dn, .int .i64 x.proto, .int .i64 x.lo, .int .i64 x.hi, .bool x.allow] rfl rfl (cell_new_list _ [.int .i64 x.sb, .int .i64 x.sn, .int .i64 x.db, .int .i64 x.dn, .int .i64 x.proto, .int .i64 x.lo, .int .i64 x.hi, .bool x.allow] _) (fun u hu => by simp at hu; rcases hu with rfl | rfl | rfl | rfl | rfl | rfl | rfl | rfl <;> rfl) (by unfold maxLen; omega) (by omega) (by have := hB1.size; simp; omega) ?_; intro v' w1 hown' hgrow _; obtain ⟨g', cap', rfl⟩ := ownsRow_succ hown'; obtain ⟨hv1, hv2, hr2, hk2, hb2⟩ := HV.out.appended (by decide) HRW.out hB1.size (Nat.le_refl _) hown' hgrow; have hc1 := hv1.cell; have hf1 := hv1.frozen; have HZ := hid (And.intro hv2 (And.intro hr2 (And.intro hk2 hb2))); clear hv2 hr2 hk2 hb2 hown' hgrow hv1)
    exact ⟨HZ.out.2.2.1.from _, HZ.out.2.2.2, ⟨_, HZ.out.1, by simpa [encRow] using HZ.out.2.1⟩, hB1.trans HZ.out.2.2.2⟩
  case done =>
    rintro D ys W hD rfl ⟨⟨v, hv, hrow, _⟩, hB1⟩ hK
    have hc := hv.cell
    gi_wp2
    refine ⟨by simp, .inl ⟨_, _, rfl, run_takeDeferred hK, ?_⟩⟩
    exact ⟨_, results_tmp rfl _ _ _, v, rfl, ownsRow_putObj hrow _ hK rfl, hB1.trans (belowK_b (w := w) (Nat.le_refl _) W D _ _ (by omega) hK rfl rfl)⟩
  case stop =>
    rintro D c pre W _ _ h _
    exact h.elim
theorem collect_any (a : Option Addr) (cap Bs : Nat) (zs : List DRow) (w : World) (hBs : w.cell? ⟨Bs, 0, none⟩ = some (.slice a zs.length cap)) (hc : rdRows w.heap.size w a zs) :
    Calls Tryz.prog 177 #[.func (.func 179) #[] #[.pointer (some ⟨Bs, 0, none⟩)]] w fun e W' => ∃ v, e = .returned v ∧ W'.ownsRow w.heap.size 49 8 v zs.length (zs.flatMap encRow) ∧ Below w.heap.size w W' := by
  have HC := hid hc
  clear hc
  go_enter Tryz.func177, Tryz.ntmps177
  go_wp2_with (go_at_call 183; refine ((callsIn_wide (n := 6)).1 (appendSeq_in Fence.wide 6 trivial trivial rfl (by decide) a cap Bs zs _ hBs HC.out)).mono ?_; rintro e w' ⟨v, rfl, ho, hb⟩; have HO := hid ho; clear ho)
  go_ret
  exact ⟨v, rfl, HO.out, hb⟩
end Go.Proofs.YtmkjlhplgcifiaaGreat
namespace Go.Proofs.YtmkjlhplgcifiaaGreat
open Go.ChangeShapes Go.WideShapes Go.ChangeAt Go.RowKit
set_option linter.unusedVariables false
set_option linter.unusedSimpArgs false
attribute [local simp] World.cell?_grow World.cell?_alloc_there
attribute [local go_sem] World.cell?_grow World.cell?_alloc_there eqg_blk std_blk eqg_pod std_pod eqg_sel std_sel eqg_prt std_prt
attribute [local go_sem ↓] eql_blk eql_sel neq_sel eql_prt eql_pod met_in1 met_in2 met_re1 met_re2 met_has1 met_has2
theorem met_bl1 (c0 c1 c2 c3 c4 c5 c6 : Value) (w : World) : (method 379 227 (.agg #[c0, c1, c2, c3, c4, c5, c6]) "palisade/peer.blocks").run Tryz.prog w = .ok (222, .agg #[c0, c1, c2, c3, c4, c5, c6]) w := by kernel_rfl
theorem met_bl2 (c0 c1 c2 c3 c4 c5 c6 : Value) (w : World) : (method 379 228 (.agg #[c0, c1, c2, c3, c4, c5, c6]) "palisade/peer.blocks").run Tryz.prog w = .ok (230, .agg #[c0, c1, c2, c3, c4, c5, c6]) w := by kernel_rfl
attribute [local go_sem ↓] met_bl1 met_bl2
theorem allB_any (w : World) : Calls Tryz.prog 102 #[] w fun e w' => e = .returned (.agg #[.int .i64 0, .int .i64 0]) ∧ Below w.heap.size w w' := by
  go_enter Tryz.func102, Tryz.ntmps102
  go_wp2
  exact bodyPost_ret (v := .agg #[.int .i64 0, .int .i64 0]) (by simp [results, Tryz.results102, go_sem]) rfl ⟨rfl, bel⟩
theorem everyPort_any (w : World) : Calls Tryz.prog 103 #[] w fun e w' => e = .returned (.agg #[.int .i64 0, .int .i64 0, .int .i64 65535]) ∧ Below w.heap.size w w' := by
  go_enter Tryz.func103, Tryz.ntmps103
  go_wp2
  exact bodyPost_ret (v := .agg #[.int .i64 0, .int .i64 0, .int .i64 65535]) (by simp [results, Tryz.results103, go_sem]) rfl ⟨rfl, bel⟩
theorem one_any (ip : Int) (w : World) (h0 : 0 ≤ ip) (h1 : ip ≤ 4294967295) : Calls Tryz.prog 133 #[.int .i64 ip] w fun e w' => e = .returned (.agg #[.int .i64 ip, .int .i64 32]) ∧ Below w.heap.size w w' := by
  have HF := hid (show ip / pw 32 * pw 32 = ip by rw [show pw 32 = 1 from rfl]; omega)
  go_enter Tryz.func133, Tryz.ntmps133
  go_wp2_with (go_at_call 136; refine (around_any ip 32 _ (by omega) (by omega) h0 h1).mono ?_; rw [HF.out]; rintro e w1 ⟨rfl, hb1⟩; obtain ⟨hc1, hf1⟩ := bcell hb1; have hz1 := hb_lt hb1; have z0 : w1.cell? ⟨w.heap.size, 0, none⟩ = some (.int .i64 0) := cell_to (by simp [go_sem]) hb1; have z1 : w1.cell? ⟨w.heap.size, 1, none⟩ = some (.int .i64 0) := cell_to (by simp [go_sem]) hb1)
  have hB : Below w.heap.size w w1 := bel
  clear hc1
  exact bodyPost_ret (v := .agg #[.int .i64 ip, .int .i64 32]) (by simp [results, Tryz.results133, go_sem, hz1, z0, z1]) rfl ⟨rfl, (hB.setCell (Nat.le_refl _) _).setCell (Nat.le_refl _) _⟩
def mkRow (way : Int) (near far : DBlk) (p : DPort) (allow : Bool) : DRow := if way = 1 then ⟨near.base, near.bits, far.base, far.bits, p.proto, p.lo, p.hi, allow⟩ else ⟨far.base, far.bits, near.base, near.bits, p.proto, p.lo, p.hi, allow⟩
theorem of_in (near far : DBlk) (p : DPort) (allow : Bool) (w : World) :
    Calls Tryz.prog 101 #[.int .i64 2, .agg #[.int .i64 near.base, .int .i64 near.bits], .agg #[.int .i64 far.base, .int .i64 far.bits], .agg #[.int .i64 p.proto, .int .i64 p.lo, .int .i64 p.hi], .bool allow] w
      fun e w' => e = .returned (.agg #[.int .i64 (mkRow 2 near far p allow).sb, .int .i64 (mkRow 2 near far p allow).sn, .int .i64 (mkRow 2 near far p allow).db, .int .i64 (mkRow 2 near far p allow).dn, .int .i64 (mkRow 2 near far p allow).proto, .int .i64 (mkRow 2 near far p allow).lo, .int .i64 (mkRow 2 near far p allow).hi, .bool (mkRow 2 near far p allow).allow]) ∧ Below w.heap.size w w' := by
  have HF := hid (show mkRow 2 near far p allow = ⟨far.base, far.bits, near.base, near.bits, p.proto, p.lo, p.hi, allow⟩ from rfl)
  go_enter Tryz.func101, Tryz.ntmps101
  go_wp2
  rw [HF.out]
  exact bodyPost_ret (v := .agg #[.int .i64 far.base, .int .i64 far.bits, .int .i64 near.base, .int .i64 near.bits, .int .i64 p.proto, .int .i64 p.lo, .int .i64 p.hi, .bool allow]) (by simp [results, Tryz.results101, go_sem]) rfl ⟨rfl, bel⟩
theorem of_out (near far : DBlk) (p : DPort) (allow : Bool) (w : World) :
    Calls Tryz.prog 101 #[.int .i64 1, .agg #[.int .i64 near.base, .int .i64 near.bits], .agg #[.int .i64 far.base, .int .i64 far.bits], .agg #[.int .i64 p.proto, .int .i64 p.lo, .int .i64 p.hi], .bool allow] w
      fun e w' => e = .returned (.agg #[.int .i64 (mkRow 1 near far p allow).sb, .int .i64 (mkRow 1 near far p allow).sn, .int .i64 (mkRow 1 near far p allow).db, .int .i64 (mkRow 1 near far p allow).dn, .int .i64 (mkRow 1 near far p allow).proto, .int .i64 (mkRow 1 near far p allow).lo, .int .i64 (mkRow 1 near far p allow).hi, .bool (mkRow 1 near far p allow).allow]) ∧ Below w.heap.size w w' := by
  have HF := hid (show mkRow 1 near far p allow = ⟨near.base, near.bits, far.base, far.bits, p.proto, p.lo, p.hi, allow⟩ from rfl)
  rw [HF.out]
  go_enter Tryz.func101, Tryz.ntmps101
  go_wp2
  go_region
  all_goals (
    go_wp2
    exact bodyPost_ret (v := .agg #[.int .i64 near.base, .int .i64 near.bits, .int .i64 far.base, .int .i64 far.bits, .int .i64 p.proto, .int .i64 p.lo, .int .i64 p.hi, .bool allow]) (by simp [results, Tryz.results101, go_sem]) rfl ⟨rfl, bel⟩)
def pBlocks (pods : List DPod) (space : Int) (x : DPeer) : List DBlk := if x.kind = 1 then (chosen pods space x).map (fun p => ⟨p.ip, 32⟩) else wout 33 ⟨x.base, x.bits⟩ x.exc
theorem oneOf_any (y : DPod) (w : World) (h0 : 0 ≤ y.ip) (h1 : y.ip ≤ 4294967295) : Calls Tryz.prog 227 #[.agg #[.int .i64 y.host, .int .i64 y.ip, .int .i64 y.space, .int .i64 y.labels]] w fun e w' => e = .returned (.agg #[.int .i64 y.ip, .int .i64 32]) ∧ Below w.heap.size w w' := by
  go_enter Tryz.func227, Tryz.ntmps227
  go_wp2_with (go_at_call 133; refine (one_any _ _ h0 h1).mono ?_; rintro e w1 ⟨rfl, hb1⟩; obtain ⟨hc1, hf1⟩ := bcell hb1; have hz1 := hb_lt hb1; have z0 : w1.cell? ⟨w.heap.size + 1, 0, none⟩ = some (.int .i64 0) := cell_to (by simp [go_sem]) hb1; have z1 : w1.cell? ⟨w.heap.size + 1, 1, none⟩ = some (.int .i64 0) := cell_to (by simp [go_sem]) hb1)
  have hB : Below w.heap.size w w1 := bel
  clear hc1
  exact bodyPost_ret (v := .agg #[.int .i64 y.ip, .int .i64 32]) (by simp [results, Tryz.results227, go_sem, hz1, z0, z1]) rfl ⟨rfl, (hB.setCell (p := ⟨w.heap.size + 1, 0, none⟩) (by show w.heap.size ≤ w.heap.size + 1; omega) _).setCell (p := ⟨w.heap.size + 1, 1, none⟩) (by show w.heap.size ≤ w.heap.size + 1; omega) _⟩
set_option maxRecDepth 100000 in
theorem mapBlk_any (l : List DPod) (a : Option Addr) (cap : Nat) (w : World) (hl : rdPods w.heap.size w a l) (hok : ∀ p ∈ l, podOk p = true) (hcl : l.length ≤ 8) :
    Calls Tryz.prog 225 #[.slice a l.length cap, .func (.func 227) #[] #[]] w
      fun e w' => (∃ a c, e = .returned (.slice a (l.map (fun p => (⟨p.ip, 32⟩ : DBlk))).length c) ∧ rdBlks w'.heap.size w' a (l.map (fun p => (⟨p.ip, 32⟩ : DBlk)))) ∧ Below w.heap.size w w' := by
  have HR1 := hid hl.2
  have HOK := hid hok
  clear hl hok
  obtain ⟨i0, hi, iz0, iz1, iz2⟩ := info_parts info_blk
  go_enter Tryz.func225, Tryz.ntmps225
  go_wp2
  go_loopw [5, 10] (fun kv i wr => ∃ k : Nat, k ≤ l.length ∧ i = .int .i64 k ∧ wr.ownsRow w.heap.size 47 2 kv (l.take k).length (((l.take k).map (fun p => (⟨p.ip, 32⟩ : DBlk))).flatMap encBlk) ∧ Below w.heap.size w wr) (fun _ i _ => l.length - (intOf i).toNat)
  case atStart => exact ⟨0, Nat.zero_le _, rfl, World.ownsRow_nil _ _ _ _, Below.refl _ _⟩
  case round =>
    obtain ⟨k, hk, rfl, hown, hbw⟩ := hrel
    have HO2 := hid hown
    have HBW := hid hbw
    clear hown
    have hkl : (l.take k).length = k := by rw [List.length_take]; omega
    by_cases hlt : k < l.length
    · obtain ⟨hc, hf⟩ := bcell hbw
      obtain ⟨y, hyk⟩ : ∃ y, l[k]? = some y := ⟨l[k], by simp [hlt]⟩
      have HX := hid hyk
      have hy := podOk_true.1 (HOK.out y (List.mem_of_getElem? hyk))
      clear hyk
      obtain ⟨b, off, rfl, hb, c0, c1, c2, c3⟩ := HR1.out k y HX.out
      go_wp2_with (first
        | (go_at_call 227; refine (oneOf_any y _ hy.2.1.1 hy.2.1.2).mono ?_; rintro e w2 ⟨rfl, hb2⟩; obtain ⟨hc2, hf2⟩ := bcell hb2; have hz2 := hb_lt hb2; have HO3 := hid (own_to (HO2.out.alloc (.cells #[.int .i64 y.host, .int .i64 y.ip, .int .i64 y.space, .int .i64 y.labels] 54)) hb2); have hW2 : Below w.heap.size w w2 := (HBW.out.alloc HBW.out.size _).trans (hb2.mono (by have := HBW.out.size; simp; omega)))
        | (at_builtin; refine wpList_append_own _ rfl _ _ 67 rfl w.heap.size 47 i0 _ 2 16 Tryz.underlying67 hi iz0 iz1 iz2 rfl (by decide) _ _ _ rfl (HO3.out.alloc _) ⟨w2.heap.size, 0, none⟩ 1 1 [.int .i64 y.ip, .int .i64 32] rfl rfl (cell_new_list _ [.int .i64 y.ip, .int .i64 32] _) (fun u hu => by simp at hu; rcases hu with rfl | rfl <;> rfl) (by unfold maxLen; omega) (by omega) (by have := hW2.size; simp; omega) ?_; intro v' w3 hown' hg3 hn3))
      refine ⟨⟨k + 1, by omega, by go_num, ?_, ?_⟩, by simp [intOf]; omega⟩
      · rw [List.take_add_one, HX.out]; simpa [encBlk] using hown'
      · exact own_below (hW2.alloc hW2.size _) (by have := hW2.size; simp; omega) (HO3.out.alloc _) hg3
    · go_wp2
      have he : l.take k = l := List.take_of_length_le (by omega)
      have ho := HO2.out
      rw [he] at ho
      rw [show l.length = (l.map (fun p => (⟨p.ip, 32⟩ : DBlk))).length by simp] at ho
      obtain ⟨a2, c2, rfl, _, hr⟩ := own_blks ho (by simp; omega)
      go_ret
      exact ⟨⟨a2, c2, rfl, hr⟩, hbw⟩
set_option maxRecDepth 100000 in
theorem podBlocks_any (x : DPeer) (ea : Option Addr) (en ec : Nat) (space : Int) (sa : Option Addr) (pods : List DPod) (sc : Nat) (w : World) (hp : rdPods w.heap.size w sa pods) (ho : podsOk pods) (hpl : pods.length ≤ 8)
    (hs : selOk x.need x.ban = true) (hsp0 : 0 ≤ x.spaces) (hsp1 : x.spaces ≤ 15) (h0 : 0 ≤ space) (h1 : space ≤ 3) :
    Calls Tryz.prog 222 #[.agg #[.int .i64 x.kind, .int .i64 x.need, .int .i64 x.ban, .int .i64 x.spaces, .int .i64 x.base, .int .i64 x.bits, .slice ea en ec], .agg #[.int .i64 space, .slice sa pods.length sc]] w
      fun e w' => (∃ a c, e = .returned (.slice a ((chosen pods space x).map (fun p => (⟨p.ip, 32⟩ : DBlk))).length c) ∧ rdBlks w'.heap.size w' a ((chosen pods space x).map (fun p => (⟨p.ip, 32⟩ : DBlk)))) ∧ Below w.heap.size w w' := by
  have HR := hid hp
  have HO := hid ho
  have HS := hid hs
  have hcl : (chosen pods space x).length ≤ 8 := Nat.le_trans (List.length_filter_le _ _) hpl
  have hok : ∀ p ∈ chosen pods space x, podOk p = true := fun p hp => ho.1 p (List.mem_filter.1 hp).1
  obtain ⟨l, hl⟩ : ∃ l, l = chosen pods space x := ⟨_, rfl⟩
  rw [← hl] at hcl hok ⊢
  have HOK := hid hok
  have HL := hid hl
  clear hp ho hs hok hl
  go_enter Tryz.func222, Tryz.ntmps222
  go_wp2_with (first
    | (go_at_call 226; refine (chosen_any x _ _ _ _ _ _ _ _ (rdPods.to HR.out bel) HO.out HS.out hsp0 hsp1 h0 h1).mono ?_; rw [← HL.out]; rintro e w1 ⟨⟨a', c', rfl, hr1⟩, hb1⟩; have HR1 := hid hr1; clear hr1)
    | (go_at_call 225; refine (mapBlk_any l _ _ _ HR1.out HOK.out hcl).mono ?_; rintro e w2 ⟨⟨a2, c2, rfl, hr2⟩, hb2⟩; have HR2 := hid hr2; clear hr2))
  go_ret
  exact ⟨⟨a2, c2, by rw [List.length_map]; rfl, HR2.out⟩, bel⟩
theorem blkBlocks_any (x : DPeer) (ea : Option Addr) (ec : Nat) (space : Int) (sa : Option Addr) (sn sc : Nat) (w : World) (hr : rdBlks w.heap.size w ea x.exc) (hb : blkOk ⟨x.base, x.bits⟩ = true) (he : x.exc.all blkOk = true) (hl : x.exc.length ≤ 2) :
    Calls Tryz.prog 230 #[.agg #[.int .i64 x.kind, .int .i64 x.need, .int .i64 x.ban, .int .i64 x.spaces, .int .i64 x.base, .int .i64 x.bits, .slice ea x.exc.length ec], .agg #[.int .i64 space, .slice sa sn sc]] w
      fun e w' => (∃ a c, e = .returned (.slice a (wout 33 ⟨x.base, x.bits⟩ x.exc).length c) ∧ rdBlks w'.heap.size w' a (wout 33 ⟨x.base, x.bits⟩ x.exc)) ∧ Below w.heap.size w w' := by
  have HR := hid hr
  have HB := hid hb
  have HE := hid he
  have hb0 : 33 - x.bits ≤ (33 : Nat) := by have := (blkOk_true.1 hb).1; simp at this; omega
  have HW := hid (wout_le 33 hb he hl)
  clear hr hb he
  go_enter Tryz.func230, Tryz.ntmps230
  go_wp2_with (go_at_call 233; refine (without_any 33 _ _ _ _ _ _ HB.out HE.out hl hb0 (rdBlks.to HR.out bel)).mono ?_; rintro e w1 ⟨⟨v, rfl, ho⟩, hb1⟩; obtain ⟨a1, c1, rfl, _, hr1⟩ := own_blks ho (by have := HW.out; omega); have HR1 := hid hr1; clear ho hr1)
  go_ret
  exact ⟨⟨a1, c1, rfl, HR1.out⟩, bel⟩
set_option maxRecDepth 100000 in
theorem peerBlocks_any (x : DPeer) (ea : Option Addr) (ec : Nat) (space : Int) (sa : Option Addr) (pods : List DPod) (sc : Nat) (w : World) (hr : rdBlks w.heap.size w ea x.exc) (hp : rdPods w.heap.size w sa pods) (ho : podsOk pods) (hpl : pods.length ≤ 8)
    (hx : peerOk x = true) (h0 : 0 ≤ space) (h1 : space ≤ 3) :
    Calls Tryz.prog 176 #[.agg #[.int .i64 x.kind, .int .i64 x.need, .int .i64 x.ban, .int .i64 x.spaces, .int .i64 x.base, .int .i64 x.bits, .slice ea x.exc.length ec], .agg #[.int .i64 space, .slice sa pods.length sc]] w
      fun e w' => (∃ a c, e = .returned (.slice a (pBlocks pods space x).length c) ∧ rdBlks w'.heap.size w' a (pBlocks pods space x)) ∧ Below w.heap.size w w' := by
  have HR := hid hr
  have HP := hid hp
  have HO := hid ho
  by_cases hk : x.kind = 1
  · obtain ⟨hs, hs0, hs1⟩ := peerOk_pods' hx hk
    have HS := hid hs
    have HF := hid (show pBlocks pods space x = (chosen pods space x).map (fun p => (⟨p.ip, 32⟩ : DBlk)) by rw [pBlocks, if_pos hk])
    have HK := hid hk
    rw [HF.out]
    clear hr hp ho hx hk hs
    go_enter Tryz.func176, Tryz.ntmps176
    go_wp2_with (first
      | (go_at_call 172; refine (kindOf_pods _ _ _ _ HK.out).mono ?_; rintro e w1 ⟨rfl, hb1⟩; obtain ⟨hc1, hf1⟩ := bcell hb1; have hz1 := hb_lt hb1)
      | (go_at_call 222; refine (podBlocks_any x _ _ _ _ _ _ _ _ (rdPods.to HP.out bel) HO.out hpl HS.out hs0 hs1 h0 h1).mono ?_; rintro e w2 ⟨⟨a2, c2, rfl, hr2⟩, hb2⟩; have HR2 := hid hr2; clear hr2))
    go_ret
    exact ⟨⟨a2, c2, by rw [List.length_map]; rfl, HR2.out⟩, bel⟩
  · obtain ⟨hk2, hb, he⟩ := peerOk_blocks' hx hk
    have hel : x.exc.length ≤ 2 := by
      rw [peerOk, if_neg hk] at hx
      simp only [Bool.and_eq_true, few, decide_eq_true_eq] at hx
      exact Int.ofNat_le.1 hx.2.1
    have HS := hid hb
    have HE := hid he
    have HF := hid (show pBlocks pods space x = wout 33 ⟨x.base, x.bits⟩ x.exc by rw [pBlocks, if_neg hk])
    have HK := hid hk2
    rw [HF.out]
    clear hr hp ho hx hk hk2 hb he
    go_enter Tryz.func176, Tryz.ntmps176
    go_wp2_with (first
      | (go_at_call 172; refine (kindOf_blocks _ _ _ _ HK.out).mono ?_; rintro e w1 ⟨rfl, hb1⟩; obtain ⟨hc1, hf1⟩ := bcell hb1; have hz1 := hb_lt hb1)
      | (go_at_call 230; refine (blkBlocks_any x _ _ _ _ _ _ _ (rdBlks.to HR.out bel) HS.out HE.out hel).mono ?_; rintro e w2 ⟨⟨a2, c2, rfl, hr2⟩, hb2⟩; have HR2 := hid hr2; clear hr2))
    go_ret
    exact ⟨⟨a2, c2, rfl, HR2.out⟩, bel⟩
end Go.Proofs.YtmkjlhplgcifiaaGreat
namespace Go.Proofs.YtmkjlhplgcifiaaGreat
open Go.ChangeShapes Go.WideShapes Go.ChangeAt Go.RowKit
set_option linter.unusedVariables false
set_option linter.unusedSimpArgs false
attribute [local simp] World.cell?_grow World.cell?_alloc_there
attribute [local go_sem] World.cell?_grow World.cell?_alloc_there eqg_blk std_blk eqg_pod std_pod eqg_sel std_sel eqg_prt std_prt
attribute [local go_sem ↓] eql_blk eql_sel neq_sel eql_prt eql_pod met_in1 met_in2 met_re1 met_re2
def litClu : DClu := ⟨[⟨0, 5, 0, 1⟩, ⟨1, 6, 0, 2⟩], [⟨0, 2, 0, 2, [], [⟨[⟨1, 1, 0, 0, 0, 0, []⟩], [⟨1, 80, 90⟩]⟩]⟩]⟩
theorem rd_nil {α : Type} (B : Nat) (w : World) (sz bytes : Nat) (E : Nat → World → Nat → Nat → α → Prop) (a : Option Addr) : RdSl B w sz bytes E a ([] : List α) := ⟨by simp, fun i x hx => by simp at hx⟩
theorem rd_one {α : Type} {B : Nat} {w : World} {sz bytes : Nat} {E : Nat → World → Nat → Nat → α → Prop} {b off : Nat} {x : α} (hy : bytes ≤ 140737488351232) (hb : b < B) (h : E B w b off x) : RdSl B w sz bytes E (some ⟨b, off, none⟩) [x] := by
  refine ⟨by simpa using hy, fun i y hy' => ?_⟩
  cases i with
  | zero =>
    cases hy'
    exact ⟨b, off, rfl, hb, by rw [Nat.zero_mul, Nat.add_zero]; exact h⟩
  | succ i => simp at hy'
theorem rd_two {α : Type} {B : Nat} {w : World} {sz bytes : Nat} {E : Nat → World → Nat → Nat → α → Prop} {b off : Nat} {x y : α} (hy : 2 * bytes ≤ 140737488351232) (hb : b < B) (h : E B w b off x) (h2 : E B w b (off + sz) y) : RdSl B w sz bytes E (some ⟨b, off, none⟩) [x, y] := by
  refine ⟨by simpa using hy, fun i z hz => ?_⟩
  cases i with
  | zero =>
    cases hz
    exact ⟨b, off, rfl, hb, by rw [Nat.zero_mul, Nat.add_zero]; exact h⟩
  | succ i =>
    cases i with
    | zero =>
      cases hz
      exact ⟨b, off, rfl, hb, by rw [Nat.zero_add, Nat.one_mul]; exact h2⟩
    | succ i => simp at hz
end Go.Proofs.YtmkjlhplgcifiaaGreat
