/-
  palisadekeep: policy, walked: its lists are its own.
-/
import Derived.Test.YtmkjlhplgcifiaaGreatJ27
import Derived.Test.YtmkjlhplgcifiaaGreatJ32
namespace Go.Proofs.YtmkjlhplgcifiaaGreat
open Go.ChangeShapes Go.WideShapes Go.ChangeAt Go.RowKit
attribute [local simp] World.cell?_grow
attribute [local go_sem] World.cell?_grow
attribute [local simp] World.cell?_alloc_there
attribute [local go_sem] World.cell?_alloc_there
attribute [local go_sem] eqg_blk std_blk eqg_pod std_pod eqg_sel std_sel eqg_prt std_prt
attribute [local go_sem ↓] eql_blk eql_sel neq_sel eql_prt eql_pod
attribute [local go_sem ↓] met_in1 met_in2 met_re1 met_re2
attribute [local go_sem ↓] met_has1 met_has2
attribute [local go_sem ↓] met_bl1 met_bl2
set_option linter.unusedVariables false
set_option linter.unusedSimpArgs false
/-- v is a list of rules of its own that lies, with all it holds, between two bounds -/
def RulIn (w : World) (v : Value) (l : List DRule) (lo hi : Nat) : Prop :=
  ∃ xs : List XRule, xs.map (·.d) = l ∧ w.ownsRow lo 64 2 v xs.length (xs.flatMap encXRule) ∧ (∀ g, v.ownBlock = some g → g < hi) ∧ ∀ y ∈ xs, NRule hi (hide w (fun b => decide (b < lo) || decide (hi ≤ b) || decide (v.ownBlock = some b))) y
theorem RulIn.to {w w' : World} {v : Value} {l : List DRule} {lo hi : Nat} (h : RulIn w v l lo hi) (hb : ∀ b, lo ≤ b → b < hi → w'.heap[b]? = w.heap[b]?) : RulIn w' v l lo hi := by
  obtain ⟨xs, h1, h2, h3, h4⟩ := h
  refine ⟨xs, h1, own_stay h2 fun g hg => hb g (h2.lt g hg).1 (h3 g hg), h3, fun y hy => NRule.mono _ _ _ _ y (Sub.hide fun b _ hG => ⟨hG, ?_⟩) (Nat.le_refl _) (h4 y hy)⟩
  simp only [Bool.or_eq_false_iff, decide_eq_false_iff_not] at hG
  exact hb b (by omega) (by omega)
theorem RulIn.nil (w : World) (lo hi : Nat) : RulIn w (.slice none 0 0) [] lo hi := ⟨[], rfl, World.ownsRow_nil _ _ _ _, fun g hg => (by cases hg), fun y hy => (by simp at hy)⟩
theorem RulIn.of {w : World} {v : Value} {l : List DRule} {lo : Nat} (h : RulUp lo w v l) : RulIn w v l lo w.heap.size := by
  obtain ⟨xs, h1, h2⟩ := h
  refine ⟨xs, h1, h2.1, fun g hg => (h2.lt g hg).2, fun y hy => NRule.mono _ _ _ _ y (Sub.hide fun b hb hG => ⟨?_, rfl⟩) (Nat.le_refl _) (h2.2 y hy)⟩
  obtain ⟨h3, h4⟩ := lowOr_false.1 hG
  simp [h4]; omega
/-- a policy whose lists are its own, one above the other -/
def PolIn (w : World) (x : RPol) (lo mid hi : Nat) : Prop := lo ≤ mid ∧ mid ≤ hi ∧ RulIn w x.o x.d.outs lo mid ∧ RulIn w x.i x.d.ins mid hi
theorem PolIn.to {w w' : World} {x : RPol} {lo mid hi : Nat} (h : PolIn w x lo mid hi) (hb : ∀ b, lo ≤ b → b < hi → w'.heap[b]? = w.heap[b]?) : PolIn w' x lo mid hi :=
  ⟨h.1, h.2.1, h.2.2.1.to fun b h1 h2 => hb b h1 (Nat.lt_of_lt_of_le h2 h.2.1), h.2.2.2.to fun b h1 h2 => hb b (Nat.le_trans h.1 h1) h2⟩
def PolNew (base : Nat) (w : World) (x : RPol) : Prop := ∃ lo mid hi, base ≤ lo ∧ hi ≤ w.heap.size ∧ PolIn w x lo mid hi
theorem PolNew.one_out {base lo : Nat} {w3 F : World} {s n b u : Int} {v : Value} {l : List DRule} (h : RulUp lo w3 v l) (h0 : base ≤ lo) (h1 : lo ≤ w3.heap.size) (h2 : w3.heap.size ≤ F.heap.size) (hb : ∀ x, lo ≤ x → x < w3.heap.size → F.heap[x]? = w3.heap[x]?) : PolNew base F ⟨⟨s, n, b, u, l, []⟩, v, .slice none 0 0⟩ :=
  ⟨lo, w3.heap.size, w3.heap.size, h0, h2, h1, Nat.le_refl _, (RulIn.of h).to hb, RulIn.nil _ _ _⟩
theorem PolNew.one_in {base lo : Nat} {w3 F : World} {s n b u : Int} {v : Value} {l : List DRule} (h : RulUp lo w3 v l) (h0 : base ≤ lo) (h1 : lo ≤ w3.heap.size) (h2 : w3.heap.size ≤ F.heap.size) (hb : ∀ x, lo ≤ x → x < w3.heap.size → F.heap[x]? = w3.heap[x]?) : PolNew base F ⟨⟨s, n, b, u, [], l⟩, .slice none 0 0, v⟩ :=
  ⟨lo, lo, w3.heap.size, h0, h2, Nat.le_refl _, h1, RulIn.nil _ _ _, (RulIn.of h).to hb⟩
theorem PolNew.both {base lo : Nat} {w3 w4 F : World} {s n b u : Int} {v v' : Value} {l l' : List DRule} (h : RulUp lo w3 v l) (h' : RulUp w3.heap.size w4 v' l') (h0 : base ≤ lo) (h1 : lo ≤ w3.heap.size) (h1' : w3.heap.size ≤ w4.heap.size) (h2 : w4.heap.size ≤ F.heap.size) (hb : ∀ x, lo ≤ x → x < w3.heap.size → F.heap[x]? = w3.heap[x]?) (hb' : ∀ x, w3.heap.size ≤ x → x < w4.heap.size → F.heap[x]? = w4.heap[x]?) : PolNew base F ⟨⟨s, n, b, u, l, l'⟩, v, v'⟩ :=
  ⟨lo, w3.heap.size, w4.heap.size, h0, h2, h1, h1', (RulIn.of h).to hb, (RulIn.of h').to hb'⟩
set_option maxRecDepth 100000 in
set_option maxHeartbeats 2000000 in
theorem mkPol_own (p : DPol) (oa ia : Option Addr) (oc ic : Nat) (w : World) (ho : rdRules w.heap.size w oa p.outs) (hi : rdRules w.heap.size w ia p.ins) (hp : iPol p) :
    Calls Tryz.prog 33 #[.agg #[.int .i64 p.space, .int .i64 p.need, .int .i64 p.ban, .int .i64 p.ways, .slice oa p.outs.length oc, .slice ia p.ins.length ic]] w
      fun e w' => (∃ a c a' c', e = .returned (.agg #[.int .i64 (mkPol p).space, .int .i64 (mkPol p).need, .int .i64 (mkPol p).ban, .int .i64 (mkPol p).ways, .slice a (mkPol p).outs.length c, .slice a' (mkPol p).ins.length c']) ∧ rdRules w'.heap.size (hide w' (low w.heap.size)) a (mkPol p).outs ∧ rdRules w'.heap.size (hide w' (low w.heap.size)) a' (mkPol p).ins ∧ PolNew w.heap.size w' ⟨mkPol p, .slice a (mkPol p).outs.length c, .slice a' (mkPol p).ins.length c'⟩) ∧ Below w.heap.size w w' := by
  have HO := hid ho
  have HI := hid hi
  obtain ⟨i0, i1, i2, i3, i4, i5⟩ := hp
  have HI4 := hid i4
  have HI5 := hid i5
  have iw := i64_wrap (p.ways - 1)
  have iw2 : i64 (IntKind.i64.wrap (p.ways - 1)) := by rw [IntWalk.i64_left]; exact iw
  clear ho hi i4 i5
  go_enter Tryz.func33, Tryz.ntmps33
  go_wp2
  have q0 : ((w.alloc (.cells #[.int .i64 p.space, .int .i64 p.need, .int .i64 p.ban, .int .i64 p.ways, .slice oa p.outs.length oc, .slice ia p.ins.length ic] 59)).alloc (.cells #[.int .i64 0, .int .i64 0, .int .i64 0, .int .i64 0, .slice none 0 0, .slice none 0 0] 59)).heap[w.heap.size]? = some (.cells #[.int .i64 p.space, .int .i64 p.need, .int .i64 p.ban, .int .i64 p.ways, .slice oa p.outs.length oc, .slice ia p.ins.length ic] 59 (0, 0)) := (Below.heap_alloc _ _ _ (by simp)).trans (new_heap _ _)
  have q1 : ((w.alloc (.cells #[.int .i64 p.space, .int .i64 p.need, .int .i64 p.ban, .int .i64 p.ways, .slice oa p.outs.length oc, .slice ia p.ins.length ic] 59)).alloc (.cells #[.int .i64 0, .int .i64 0, .int .i64 0, .int .i64 0, .slice none 0 0, .slice none 0 0] 59)).heap[w.heap.size + 1]? = some (.cells #[.int .i64 0, .int .i64 0, .int .i64 0, .int .i64 0, .slice none 0 0, .slice none 0 0] 59 (0, 0)) := by
    have := new_heap (w.alloc (.cells #[.int .i64 p.space, .int .i64 p.need, .int .i64 p.ban, .int .i64 p.ways, .slice oa p.outs.length oc, .slice ia p.ins.length ic] 59)) (.cells #[.int .i64 0, .int .i64 0, .int .i64 0, .int .i64 0, .slice none 0 0, .slice none 0 0] 59)
    simpa only [World.size_alloc] using this
  have hB : Below w.heap.size w ((w.alloc (.cells #[.int .i64 p.space, .int .i64 p.need, .int .i64 p.ban, .int .i64 p.ways, .slice oa p.outs.length oc, .slice ia p.ins.length ic] 59)).alloc (.cells #[.int .i64 0, .int .i64 0, .int .i64 0, .int .i64 0, .slice none 0 0, .slice none 0 0] 59)) := (by repeat (first | exact Below.refl _ _ | assumption | apply Ext.alloc | apply Ext.drewN | apply Ext.drew | refine Ext.trans ?_ (by assumption)))
  have hS : w.heap.size + 2 ≤ ((w.alloc (.cells #[.int .i64 p.space, .int .i64 p.need, .int .i64 p.ban, .int .i64 p.ways, .slice oa p.outs.length oc, .slice ia p.ins.length ic] 59)).alloc (.cells #[.int .i64 0, .int .i64 0, .int .i64 0, .int .i64 0, .slice none 0 0, .slice none 0 0] 59)).heap.size := by simp only [World.size_alloc]; omega
  generalize ((w.alloc (.cells #[.int .i64 p.space, .int .i64 p.need, .int .i64 p.ban, .int .i64 p.ways, .slice oa p.outs.length oc, .slice ia p.ins.length ic] 59)).alloc (.cells #[.int .i64 0, .int .i64 0, .int .i64 0, .int .i64 0, .slice none 0 0, .slice none 0 0] 59)) = W at q0 q1 hB hS ⊢
  have x0 : W.cell? ⟨w.heap.size, 0, none⟩ = some (.int .i64 p.space) := (blk_cell q0 0).trans rfl
  have x1 : W.cell? ⟨w.heap.size, 1, none⟩ = some (.int .i64 p.need) := (blk_cell q0 1).trans rfl
  have x2 : W.cell? ⟨w.heap.size, 2, none⟩ = some (.int .i64 p.ban) := (blk_cell q0 2).trans rfl
  have x3 : W.cell? ⟨w.heap.size, 3, none⟩ = some (.int .i64 p.ways) := (blk_cell q0 3).trans rfl
  have HB := hid hB
  have Q0 := hid q0
  have Q1 := hid q1
  have hway : mkWays p.ways = 1 + pk (wrap64 (p.ways - 1)) 3 := rfl
  have hwin : -9223372036854775808 ≤ 1 + pk (wrap64 (p.ways - 1)) 3 ∧ 1 + pk (wrap64 (p.ways - 1)) 3 ≤ 9223372036854775807 := by have := mkWays_in p.ways; rw [hway] at this; omega
  have HWW := hid (show IntKind.i64.wrap (1 + pk (IntKind.i64.wrap (p.ways - 1)) 3) = mkWays p.ways by rw [IntWalk.i64_left (p.ways - 1), hway]; exact IntWalk.i64_in _ hwin)
  clear hB q0 q1 hway
  go_cut [3] from 4 to 15 (fun x wx => ∃ q, x = .pointer (some ⟨q, 0, none⟩) ∧ W.heap.size ≤ q ∧ wx.heap[q]? = some (.cells #[.int .i64 (pk p.space 4), .int .i64 (pk p.need 256), .int .i64 (pk p.ban 256), .int .i64 (mkWays p.ways), .slice none 0 0, .slice none 0 0] 59 (0, 0)) ∧ Below W.heap.size W wx)
  case first =>
    go_region_held3 (fun w' => w'.cell? ⟨w.heap.size, 0, none⟩ = some (.int .i64 p.space) ∧ w'.cell? ⟨w.heap.size, 1, none⟩ = some (.int .i64 p.need) ∧ w'.cell? ⟨w.heap.size, 2, none⟩ = some (.int .i64 p.ban) ∧ w'.cell? ⟨w.heap.size, 3, none⟩ = some (.int .i64 p.ways)) (first | (with_reducible refine ⟨far6 (by assumption) (by omega), far6 (by assumption) (by omega), far6 (by assumption) (by omega), far6 (by assumption) (by omega)⟩) | go_keep) (first
      | (go_at_call 22; refine (pick_any _ _ _ (by assumption) (by decide) (by decide)).mono ?_; rintro e w' ⟨rfl, rfl⟩)
      | (go_at_call 41; refine (mkSel_any _ _ _ (by assumption) (by assumption)).mono ?_; rintro e w3 ⟨rfl, hb3⟩; have HB3 := hid hb3; have r0 := cell_to (b := w.heap.size) (o := 0) (v := .int .i64 p.space) (by first | exact x0 | exact cell_past x0) hb3; have r1 := cell_to (b := w.heap.size) (o := 1) (v := .int .i64 p.need) (by first | exact x1 | exact cell_past x1) hb3; have r2 := cell_to (b := w.heap.size) (o := 2) (v := .int .i64 p.ban) (by first | exact x2 | exact cell_past x2) hb3; have r3 := cell_to (b := w.heap.size) (o := 3) (v := .int .i64 p.ways) (by first | exact x3 | exact cell_past x3) hb3; try (have nq : w3.heap[W.heap.size]? = some (.cells #[.int .i64 0, .int .i64 0, .int .i64 0, .int .i64 0, .slice none 0 0, .slice none 0 0] 59 (0, 0)) := (hb3.block W.heap.size (by simp)).trans (new_heap W _); have nc := blk_cell nq; have nf := blk_frozen nq; have NQ := hid nq; have hlt3 : W.heap.size < w3.heap.size := Nat.lt_of_lt_of_le (by simp) hb3.size; clear nq); clear hb3))
    all_goals (
      go_wp2_with fail
      go_meet
      rw [HWW.out]
      first
        | (have hn := NQ.out
           have h1 := ((Below.refl W.heap.size W).alloc (Nat.le_refl _) (.cells #[.int .i64 0, .int .i64 0, .int .i64 0, .int .i64 0, .slice none 0 0, .slice none 0 0] 59)).drew.trans (HB3.out.mono (by show W.heap.size ≤ (W.alloc _).heap.size; rw [World.size_alloc]; omega))
           exact ⟨W.heap.size, rfl, Nat.le_refl _, set6_blk hn, set6_below h1 (Nat.le_refl _)⟩)
        | (have h1 : Below W.heap.size W _ := ⟨HB3.out.os, HB3.out.tape, HB3.out.output, HB3.out.size, HB3.out.block⟩
           exact ⟨_, rfl, h1.size, new_heap _ _, h1.alloc h1.size _⟩))
  case rest =>
    obtain ⟨q, rfl, hq, hqb, hbc⟩ := hcut
    have hql : q < wc.heap.size := (Array.getElem?_eq_some_iff.1 hqb).1
    have hrl : w.heap.size + 1 < wc.heap.size := by omega
    have n0 := (hbc.block w.heap.size (by omega)).trans Q0.out
    have n1 := (hbc.block (w.heap.size + 1) (by omega)).trans Q1.out
    have s4 : wc.cell? ⟨w.heap.size, 4, none⟩ = some (.slice oa p.outs.length oc) := (blk_cell n0 4).trans rfl
    have s5 : wc.cell? ⟨w.heap.size, 5, none⟩ = some (.slice ia p.ins.length ic) := (blk_cell n0 5).trans rfl
    have HBc := hid (show Below w.heap.size w wc from HB.out.trans (hbc.mono (by omega)))
    have hne1 : ¬ q = w.heap.size := by omega
    have hne2 : ¬ w.heap.size = q := by omega
    have hne3 : ¬ q = w.heap.size + 1 := by omega
    have hne4 : ¬ w.heap.size + 1 = q := by omega
    have hrest : ∀ wy : Int, mkWays p.ways = wy → (wy = 1 ∨ wy = 2 ∨ wy = 3) := fun wy h => h ▸ mkWays_in p.ways
    generalize hwy : mkWays p.ways = wy at hqb
    have hw3 := hrest wy hwy
    have HRB := hid n1
    clear hrest n0 n1 hbc x0 x1 x2 x3 hwin iw iw2
    rcases hw3 with rfl | rfl | rfl
    · have HM := hid (show mkPol p = ⟨pk p.space 4, pk p.need 256, pk p.ban 256, 1, mkRules p.outs, []⟩ by simp [mkPol, hwy])
      have HQB := hid hqb
      have m0 := blk_cell hqb
      have m1 := blk_frozen hqb
      clear hwy hqb
      go_wp2_with (go_at_call 23; go_must (refine (mkRules_up p.outs oa oc _ (rdRules.ext HBc.out (HBc.out).size HO.out) HI4.out).mono ?_); rintro e w3 ⟨⟨a3, c3, rfl, _, hr3, hu3⟩, hb3⟩; have HB3 := hid hb3; have HR3 := hid hr3; have HU3 := hid hu3; clear hu3; have hs3 := hb3.size; have k03 := blk_cell ((hb3.block q (hql)).trans (HQB.out)); have k13 := blk_frozen ((hb3.block q (hql)).trans (HQB.out)); have k23 := blk_cell ((hb3.block _ (hrl)).trans (HRB.out)); have k33 := blk_frozen ((hb3.block _ (hrl)).trans (HRB.out)); clear hb3 hr3 m0 m1 s4 s5)
      refine bodyPost_ret (v := .agg #[.int .i64 (pk p.space 4), .int .i64 (pk p.need 256), .int .i64 (pk p.ban 256), .int .i64 1, .slice a3 (mkRules p.outs).length c3, .slice none 0 0]) (by simp [results, Tryz.results33, go_sem, k23]) rfl ⟨⟨a3, c3, none, 0, ?_, ?_, ?_, ?_⟩, ?_⟩
      · rw [HM.out]; rfl
      · rw [HM.out]
        refine rdRules.sub (Sub.trans ?_ (Sub.low (m := wc.heap.size) (by omega))) (by simp) HR3.out
        iterate 7 refine Sub.trans ?_ (Sub.set _ _ (by simp only [low, decide_eq_true_eq]; omega))
        exact Sub.refl _
      · rw [HM.out]; exact rd_nil _ _ _ _ _ _
      · rw [HM.out]
        refine PolNew.one_out HU3.out (by omega) hs3 (by simp) (fun b' h1 h2 => by
          iterate 7 rw [Below.heap_setCell _ _ _ _ (by first | (show b' ≠ q; omega) | (show b' ≠ w.heap.size + 1; omega))])
      · iterate 7 refine Below.setCell ?_ (by first | (simp; done) | (show w.heap.size ≤ q; omega)) _
        exact HBc.out.trans (HB3.out.mono HBc.out.size)
    · have HM := hid (show mkPol p = ⟨pk p.space 4, pk p.need 256, pk p.ban 256, 2, [], mkRules p.ins⟩ by simp [mkPol, hwy])
      have HQB := hid hqb
      have m0 := blk_cell hqb
      have m1 := blk_frozen hqb
      clear hwy hqb
      go_wp2_with (go_at_call 23; go_must (refine (mkRules_up p.ins ia ic _ (rdRules.ext HBc.out (HBc.out).size HI.out) HI5.out).mono ?_); rintro e w3 ⟨⟨a3, c3, rfl, _, hr3, hu3⟩, hb3⟩; have HB3 := hid hb3; have HR3 := hid hr3; have HU3 := hid hu3; clear hu3; have hs3 := hb3.size; have k03 := blk_cell ((hb3.block q (hql)).trans (HQB.out)); have k13 := blk_frozen ((hb3.block q (hql)).trans (HQB.out)); have k23 := blk_cell ((hb3.block _ (hrl)).trans (HRB.out)); have k33 := blk_frozen ((hb3.block _ (hrl)).trans (HRB.out)); clear hb3 hr3 m0 m1 s4 s5)
      refine bodyPost_ret (v := .agg #[.int .i64 (pk p.space 4), .int .i64 (pk p.need 256), .int .i64 (pk p.ban 256), .int .i64 2, .slice none 0 0, .slice a3 (mkRules p.ins).length c3]) (by simp [results, Tryz.results33, go_sem, k23]) rfl ⟨⟨none, 0, a3, c3, ?_, ?_, ?_, ?_⟩, ?_⟩
      · rw [HM.out]; rfl
      · rw [HM.out]; exact rd_nil _ _ _ _ _ _
      · rw [HM.out]
        refine rdRules.sub (Sub.trans ?_ (Sub.low (m := wc.heap.size) (by omega))) (by simp) HR3.out
        iterate 7 refine Sub.trans ?_ (Sub.set _ _ (by simp only [low, decide_eq_true_eq]; omega))
        exact Sub.refl _
      · rw [HM.out]
        refine PolNew.one_in HU3.out (by omega) hs3 (by simp) (fun b' h1 h2 => by
          iterate 7 rw [Below.heap_setCell _ _ _ _ (by first | (show b' ≠ q; omega) | (show b' ≠ w.heap.size + 1; omega))])
      · iterate 7 refine Below.setCell ?_ (by first | (simp; done) | (show w.heap.size ≤ q; omega)) _
        exact HBc.out.trans (HB3.out.mono HBc.out.size)
    · have HM := hid (show mkPol p = ⟨pk p.space 4, pk p.need 256, pk p.ban 256, 3, mkRules p.outs, mkRules p.ins⟩ by simp [mkPol, hwy])
      have HQB := hid hqb
      have m0 := blk_cell hqb
      have m1 := blk_frozen hqb
      clear hwy hqb
      go_wp2_with fail
      refine (mkRules_up p.outs oa oc wc (rdRules.ext HBc.out HBc.out.size HO.out) HI4.out).mono ?_
      rintro e w3 ⟨⟨a3, c3, rfl, _, hr3, hu3⟩, hb3⟩
      have HB3 := hid hb3
      have HR3 := hid hr3
      have HU3 := hid hu3
      clear hu3
      have hs3 := hb3.size
      have hs3' := hb3.size
      have HQ3 := hid ((hb3.block q hql).trans HQB.out)
      have HRB3 := hid ((hb3.block _ hrl).trans HRB.out)
      have j0 := blk_cell HQ3.out
      have j1 := blk_frozen HQ3.out
      have t5 := cell_to s5 hb3
      clear hb3 hr3 m0 m1 s4 s5
      go_wp2_with fail
      have HX := hid (show Below w.heap.size w (w3.setCell ⟨q, 4, none⟩ (.slice a3 (mkRules p.outs).length c3)) from (HBc.out.trans (HB3.out.mono HBc.out.size)).setCell (by show w.heap.size ≤ q; omega) _)
      refine (mkRules_up p.ins ia ic _ (rdRules.ext HX.out HX.out.size HI.out) HI5.out).mono ?_
      rintro e w4 ⟨⟨a4, c4, rfl, _, hr4, hu4⟩, hb4⟩
      have HB4 := hid hb4
      have HU4 := hid (show RulUp w3.heap.size w4 _ _ by simpa only [World.size_setCell] using hu4)
      clear hu4
      have HR4 := hid (show rdRules w4.heap.size (hide w4 (low w3.heap.size)) a4 (mkRules p.ins) by simpa only [World.size_setCell] using hr4)
      have hs4 : w3.heap.size ≤ w4.heap.size := by simpa only [World.size_setCell] using hb4.size
      have n4 := (hb4.block q (by rw [World.size_setCell]; omega)).trans (set_blk HQ3.out 4 _)
      have l0 := blk_cell n4
      have l1 := blk_frozen n4
      have nr := (hb4.block (w.heap.size + 1) (by rw [World.size_setCell]; omega)).trans ((Below.heap_setCell _ _ _ _ (by show w.heap.size + 1 ≠ q; omega)).trans HRB3.out)
      have l2 := blk_cell nr
      have l3 := blk_frozen nr
      clear hb4 hr4 n4 nr j0 j1 t5
      go_wp2
      refine bodyPost_ret (v := .agg #[.int .i64 (pk p.space 4), .int .i64 (pk p.need 256), .int .i64 (pk p.ban 256), .int .i64 3, .slice a3 (mkRules p.outs).length c3, .slice a4 (mkRules p.ins).length c4]) (by simp [results, Tryz.results33, go_sem, l2]) rfl ⟨⟨a3, c3, a4, c4, ?_, ?_, ?_, ?_⟩, ?_⟩
      · rw [HM.out]
      · rw [HM.out]
        refine rdRules.sub (Sub.trans ?_ (Sub.low (m := wc.heap.size) (by omega))) (by simpa using hs4) HR3.out
        iterate 7 refine Sub.trans ?_ (Sub.set _ _ (by simp only [low, decide_eq_true_eq]; omega))
        exact (Sub.set _ _ (by simp only [low, decide_eq_true_eq]; omega)).trans (Sub.grow HB4.out)
      · rw [HM.out]
        refine rdRules.sub (Sub.trans ?_ (Sub.low (m := w3.heap.size) (by omega))) (by simp) HR4.out
        iterate 7 refine Sub.trans ?_ (Sub.set _ _ (by simp only [low, decide_eq_true_eq]; omega))
        exact Sub.refl _
      · rw [HM.out]
        refine PolNew.both HU3.out HU4.out (by omega) hs3' hs4 (by simp) (fun b' h1 h2 => ?_) (fun b' h1 h2 => ?_)
        · iterate 7 rw [Below.heap_setCell _ _ _ _ (by first | (show b' ≠ q; omega) | (show b' ≠ w.heap.size + 1; omega))]
          rw [HB4.out.block b' (by rw [World.size_setCell]; omega), Below.heap_setCell _ _ _ _ (by show b' ≠ q; omega)]
        · iterate 7 rw [Below.heap_setCell _ _ _ _ (by first | (show b' ≠ q; omega) | (show b' ≠ w.heap.size + 1; omega))]
      · iterate 7 refine Below.setCell ?_ (by first | (simp; done) | (show w.heap.size ≤ q; omega)) _
        exact HX.out.trans (HB4.out.mono HX.out.size)
end Go.Proofs.YtmkjlhplgcifiaaGreat
