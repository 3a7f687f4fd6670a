/-
  Copies of policies.
  palisadekeep: policy, walked.
-/
import Derived.Test.YtmkjlhplgcifiaaGreatJ31
import Derived.Test.YtmkjlhplgcifiaaGreatJ25
import Derived.Test.YtmkjlhplgcifiaaGreatJ03
import Derived.Test.YtmkjlhplgcifiaaGreatJ26
import Derived.Test.YtmkjlhplgcifiaaGreatJ29
import Derived.Deep.RegionHeld3
import Derived.Deep.CutBlock
import Derived.Deep.CutRange
namespace Go.Proofs.YtmkjlhplgcifiaaGreat
open Go.ChangeShapes Go.WideShapes Go.ChangeAt Go.RowKit
attribute [local simp] World.cell?_grow
attribute [local go_sem] World.cell?_grow
attribute [local simp] World.cell?_alloc_there
attribute [local go_sem] World.cell?_alloc_there
attribute [local go_sem] eqg_blk std_blk eqg_pod std_pod eqg_sel std_sel eqg_prt std_prt
attribute [local go_sem ↓] eql_blk eql_sel neq_sel eql_prt eql_pod
attribute [local go_sem ↓] met_in1 met_in2 met_re1 met_re2
attribute [local go_sem ↓] met_has1 met_has2
attribute [local go_sem ↓] met_bl1 met_bl2
set_option linter.unusedVariables false
set_option linter.unusedSimpArgs false
set_option maxRecDepth 100000 in
set_option maxHeartbeats 1000000 in
theorem polCopy_any (p : DPol) (oa ia : Option Addr) (oc ic : Nat) (w : World) (ho : rdRules w.heap.size w oa p.outs) (hi : rdRules w.heap.size w ia p.ins) :
    Calls Tryz.prog 60 #[.agg #[.int .i64 p.space, .int .i64 p.need, .int .i64 p.ban, .int .i64 p.ways, .slice oa p.outs.length oc, .slice ia p.ins.length ic]] w
      fun e w' => (∃ a c a' c', e = .returned (.agg #[.int .i64 p.space, .int .i64 p.need, .int .i64 p.ban, .int .i64 p.ways, .slice a p.outs.length c, .slice a' p.ins.length c']) ∧ rdRules w'.heap.size (hide w' (low w.heap.size)) a p.outs ∧ rdRules w'.heap.size (hide w' (low w.heap.size)) a' p.ins) ∧ Below w.heap.size w w' := by
  have HP := hid ho
  have HQ := hid hi
  clear ho hi
  go_enter Tryz.func60, Tryz.ntmps60
  go_wp2
  have q0 : ((w.alloc (.cells #[.int .i64 p.space, .int .i64 p.need, .int .i64 p.ban, .int .i64 p.ways, .slice oa p.outs.length oc, .slice ia p.ins.length ic] 59)).alloc (.cells #[.int .i64 0, .int .i64 0, .int .i64 0, .int .i64 0, .slice none 0 0, .slice none 0 0] 59)).heap[w.heap.size]? = some (.cells #[.int .i64 p.space, .int .i64 p.need, .int .i64 p.ban, .int .i64 p.ways, .slice oa p.outs.length oc, .slice ia p.ins.length ic] 59 (0, 0)) := (Below.heap_alloc _ _ _ (by simp)).trans (new_heap _ _)
  have q1 : ((w.alloc (.cells #[.int .i64 p.space, .int .i64 p.need, .int .i64 p.ban, .int .i64 p.ways, .slice oa p.outs.length oc, .slice ia p.ins.length ic] 59)).alloc (.cells #[.int .i64 0, .int .i64 0, .int .i64 0, .int .i64 0, .slice none 0 0, .slice none 0 0] 59)).heap[w.heap.size + 1]? = some (.cells #[.int .i64 0, .int .i64 0, .int .i64 0, .int .i64 0, .slice none 0 0, .slice none 0 0] 59 (0, 0)) := by
    have := new_heap (w.alloc (.cells #[.int .i64 p.space, .int .i64 p.need, .int .i64 p.ban, .int .i64 p.ways, .slice oa p.outs.length oc, .slice ia p.ins.length ic] 59)) (.cells #[.int .i64 0, .int .i64 0, .int .i64 0, .int .i64 0, .slice none 0 0, .slice none 0 0] 59)
    simpa only [World.size_alloc] using this
  have hB : Below w.heap.size w ((w.alloc (.cells #[.int .i64 p.space, .int .i64 p.need, .int .i64 p.ban, .int .i64 p.ways, .slice oa p.outs.length oc, .slice ia p.ins.length ic] 59)).alloc (.cells #[.int .i64 0, .int .i64 0, .int .i64 0, .int .i64 0, .slice none 0 0, .slice none 0 0] 59)) := (by repeat (first | exact Below.refl _ _ | assumption | apply Ext.alloc | apply Ext.drewN | apply Ext.drew | refine Ext.trans ?_ (by assumption)))
  have hS : w.heap.size + 2 ≤ ((w.alloc (.cells #[.int .i64 p.space, .int .i64 p.need, .int .i64 p.ban, .int .i64 p.ways, .slice oa p.outs.length oc, .slice ia p.ins.length ic] 59)).alloc (.cells #[.int .i64 0, .int .i64 0, .int .i64 0, .int .i64 0, .slice none 0 0, .slice none 0 0] 59)).heap.size := by simp only [World.size_alloc]; omega
  generalize (w.alloc (.cells #[.int .i64 p.space, .int .i64 p.need, .int .i64 p.ban, .int .i64 p.ways, .slice oa p.outs.length oc, .slice ia p.ins.length ic] 59)).alloc (.cells #[.int .i64 0, .int .i64 0, .int .i64 0, .int .i64 0, .slice none 0 0, .slice none 0 0] 59) = W at q0 q1 hB hS ⊢
  have x0 : W.drew.cell? ⟨w.heap.size, 4, none⟩ = some (.slice oa p.outs.length oc) := (blk_cell q0 4).trans rfl
  have x1 : W.drew.cell? ⟨w.heap.size, 5, none⟩ = some (.slice ia p.ins.length ic) := (blk_cell q0 5).trans rfl
  have HB := hid hB
  have Q0 := hid q0
  have Q1 := hid q1
  clear hB q0 q1
  refine wp_region_held_tail (S := (fun w' => w'.cell? ⟨w.heap.size, 4, none⟩ = some (.slice oa p.outs.length oc) ∧ w'.cell? ⟨w.heap.size, 5, none⟩ = some (.slice ia p.ins.length ic))) 7 (by kernel_rfl) (by kernel_rfl) ?_
  simp only [takes_7, drops_7]
  have hS0 : (fun w' : World => w'.cell? ⟨w.heap.size, 4, none⟩ = some (.slice oa p.outs.length oc) ∧ w'.cell? ⟨w.heap.size, 5, none⟩ = some (.slice ia p.ins.length ic)) W.drew := ⟨x0, x1⟩
  refine htake_0 (.pointer (some ⟨w.heap.size, 4, none⟩)) (by kernel_rfl) (by kernel_rfl) (by kernel_rfl) rfl (fun _ _ _ h => h) (fun w' hSw => by (obtain ⟨s0, s1⟩ := hSw; go_simp)) hS0 ?_
  try simp only [Act.put, List.setIfInBounds_toArray, List.set_cons_zero, List.set_cons_succ]
  refine htake_1 (.slice oa p.outs.length oc) (by kernel_rfl) (by kernel_rfl) (by kernel_rfl) rfl (fun _ _ _ h => h) (fun w' hSw => by (obtain ⟨s0, s1⟩ := hSw; go_simp)) hS0 ?_
  try simp only [Act.put, List.setIfInBounds_toArray, List.set_cons_zero, List.set_cons_succ]
  refine htake_3 (.pointer (some ⟨w.heap.size, 5, none⟩)) (by kernel_rfl) (by kernel_rfl) (by kernel_rfl) rfl (fun _ _ _ h => h) (fun w' hSw => by (obtain ⟨s0, s1⟩ := hSw; go_simp)) hS0 ?_
  try simp only [Act.put, List.setIfInBounds_toArray, List.set_cons_zero, List.set_cons_succ]
  refine htake_4 (.slice ia p.ins.length ic) (by kernel_rfl) (by kernel_rfl) (by kernel_rfl) rfl (fun _ _ _ h => h) (fun w' hSw => by (obtain ⟨s0, s1⟩ := hSw; go_simp)) hS0 ?_
  try simp only [Act.put, List.setIfInBounds_toArray, List.set_cons_zero, List.set_cons_succ]
  refine hone_2 (by kernel_rfl) rfl (fun K hK => ?_)
  go_simp
  go_at_call 98
  refine (mapRule_any p.outs oa oc W.drew (rdRules.ext HB.out.drew HB.out.size HP.out)).mono ?_
  rintro e w3 ⟨⟨a3, c3, rfl, _, hr3⟩, hb3⟩
  have z0 := cell_to x0 hb3
  have z1 := cell_to x1 hb3
  have HB3 := hid hb3
  have HR3 := hid hr3
  have hs3 : W.heap.size ≤ w3.heap.size := hb3.size
  clear hb3 hr3
  refine hK _ _ ⟨z0, z1⟩ ?_
  clear hK
  try simp only [Act.put, List.setIfInBounds_toArray, List.set_cons_zero, List.set_cons_succ]
  refine htake_6 (.pointer (some ⟨w.heap.size, 4, none⟩)) (by kernel_rfl) (by kernel_rfl) (by kernel_rfl) rfl (fun _ _ _ h => h) (fun w' hSw => by (obtain ⟨s0, s1⟩ := hSw; go_simp)) ⟨z0, z1⟩ ?_
  try simp only [Act.put, List.setIfInBounds_toArray, List.set_cons_zero, List.set_cons_succ]
  refine hone_5 (by kernel_rfl) rfl (fun K hK => ?_)
  go_simp
  go_at_call 98
  refine (mapRule_any p.ins ia ic w3 (rdRules.ext (HB.out.drew.trans (HB3.out.mono HB.out.size)) (Nat.le_trans HB.out.size HB3.out.size) HQ.out)).mono ?_
  rintro e w4 ⟨⟨a4, c4, rfl, _, hr4⟩, hb4⟩
  have v0 := cell_to z0 hb4
  have v1 := cell_to z1 hb4
  have HB4 := hid hb4
  have HR4 := hid hr4
  have hs4 : w3.heap.size ≤ w4.heap.size := hb4.size
  have n0 : w4.heap[w.heap.size]? = _ := (hb4.block _ (by omega)).trans ((HB3.out.block _ (by show _ < W.heap.size; omega)).trans Q0.out)
  have n1 : w4.heap[w.heap.size + 1]? = _ := (hb4.block _ (by omega)).trans ((HB3.out.block _ (by show _ < W.heap.size; omega)).trans Q1.out)
  have k0 := blk_cell n0
  have k1 := blk_cell n1
  have f0 := blk_frozen n0
  have f1 := blk_frozen n1
  refine hK _ _ ⟨v0, v1⟩ ?_
  refine wpAnyH_done (by kernel_rfl) ?_ _
  show wpList _ _ _ _ _ _
  try simp only [Act.put, List.setIfInBounds_toArray, List.set_cons_zero, List.set_cons_succ]
  clear hK hS0 z0 z1 v0 v1 hb4 hr4 x0 x1 n0 n1
  go_wp2
  refine bodyPost_ret (v := .agg #[.int .i64 p.space, .int .i64 p.need, .int .i64 p.ban, .int .i64 p.ways, .slice a3 p.outs.length c3, .slice a4 p.ins.length c4]) (by simp [results, Tryz.results60, go_sem, k0, k1]) rfl ⟨⟨a3, c3, a4, c4, rfl, ?_, ?_⟩, ?_⟩
  · refine rdRules.sub (Sub.trans ?_ (Sub.low (m := W.heap.size) (by omega))) (by simpa using hs4) HR3.out
    iterate 8 refine Sub.trans ?_ (Sub.set _ _ (by simp only [low, decide_eq_true_eq]; omega))
    exact Sub.grow HB4.out
  · refine rdRules.sub (Sub.trans ?_ (Sub.low (m := w3.heap.size) (by omega))) (by simp) HR4.out
    iterate 8 refine Sub.trans ?_ (Sub.set _ _ (by simp only [low, decide_eq_true_eq]; omega))
    exact Sub.refl _
  · iterate 8 refine Below.setCell ?_ (by simp) _
    exact HB.out.drew.trans ((HB3.out.mono HB.out.size).trans (HB4.out.mono (Nat.le_trans HB.out.size hs3)))
set_option maxRecDepth 100000 in
theorem mapPol_any (l : List DPol) (a : Option Addr) (cap : Nat) (w : World) (hl : rdPols w.heap.size w a l) :
    Calls Tryz.prog 59 #[.slice a l.length cap, .func (.func 60) #[] #[]] w
      fun e w' => (∃ a c, e = .returned (.slice a l.length c) ∧ l.length ≤ c ∧ rdPols w'.heap.size (hide w' (low w.heap.size)) a l) ∧ Below w.heap.size w w' := by
  have HL := hid hl
  have hlen := hl.1
  clear hl
  obtain ⟨i0, hi, iz0, iz1, iz2⟩ := info_parts info_pol
  go_enter Tryz.func59, Tryz.ntmps59
  go_wp2
  go_loopw [5, 10] (fun v i wr => ∃ (k : Nat) (ys : List RPol), k ≤ l.length ∧ i = .int .i64 k ∧ ys.map (·.d) = l.take k ∧ UpPols w.heap.size wr v ys ∧ Below w.heap.size w wr) (fun _ i _ => l.length - (intOf i).toNat)
  case atStart => exact ⟨0, [], Nat.zero_le _, rfl, rfl, Up.nil _ _, Below.refl _ _⟩
  case round =>
    obtain ⟨k, ys, hk, rfl, hys, hup, hbw⟩ := hrel
    have HYS := hid hys
    have HU := hid hup
    have HBW := hid hbw
    have hyl := cpy_len hys
    have hws := hbw.size
    clear hys hup
    by_cases hlt : k < l.length
    · obtain ⟨x, hxk⟩ : ∃ x, l[k]? = some x := ⟨l[k], by simp [hlt]⟩
      have HX := hid hxk
      obtain ⟨b, off, rfl, hb, c0, c1, c2, c3, ⟨pa, pc, c4, hrp⟩, qa, qc, c5, hrq⟩ := HL.out.2 k x hxk
      have HRP := hid hrp
      have HRQ := hid hrq
      obtain ⟨hc, hf⟩ := bcell hbw
      clear hxk hrp hrq
      go_wp2_with (first
        | (go_at_call 60; go_must (refine (polCopy_any x pa qa pc qc _ (rdRules.to HRP.out (by repeat (first | exact Below.refl _ _ | assumption | apply Ext.alloc | apply Ext.drewN | apply Ext.drew | refine Ext.trans ?_ (by assumption)))) (rdRules.to HRQ.out (by repeat (first | exact Below.refl _ _ | assumption | apply Ext.alloc | apply Ext.drewN | apply Ext.drew | refine Ext.trans ?_ (by assumption))))).mono ?_); rintro e w2 ⟨⟨a2, c2, a2', c2', rfl, hr2, hr2'⟩, hb2⟩; have HB2 := hid (show Below wr.heap.size wr w2 from (by repeat (first | exact Below.refl _ _ | assumption | apply Ext.alloc | apply Ext.drewN | apply Ext.drew | refine Ext.trans ?_ (by assumption)))); have HR2 := hid (show rdRules w2.heap.size (hide w2 (low (wr.heap.size + 1))) a2 x.outs by simpa only [World.size_alloc] using hr2); have HR2' := hid (show rdRules w2.heap.size (hide w2 (low (wr.heap.size + 1))) a2' x.ins by simpa only [World.size_alloc] using hr2'); have HU2 := hid (HU.out.grow NPol.mono HB2.out); have hs2 := HB2.out.size; clear hr2 hr2' hb2)
        | (at_builtin; refine wpList_append_own_at _ rfl _ _ 26 rfl w.heap.size 59 i0 _ 6 80 Tryz.underlying26 hi iz0 iz1 iz2 rfl (by decide) _ _ _ rfl (HU2.out.1.alloc (.cells (encPol ⟨x, .slice a2 x.outs.length c2, .slice a2' x.ins.length c2'⟩).toArray 59)) ⟨w2.heap.size, 0, none⟩ 1 1 (encPol ⟨x, .slice a2 x.outs.length c2, .slice a2' x.ins.length c2'⟩) rfl rfl (cell_new_list w2 (encPol ⟨x, .slice a2 x.outs.length c2, .slice a2' x.ins.length c2'⟩) _) (by intro u hu; simp only [encPol, List.mem_cons, List.not_mem_nil, or_false] at hu; rcases hu with rfl | rfl | rfl | rfl | rfl | rfl <;> rfl) (by unfold maxLen; omega) (by omega) (by rw [World.size_alloc]; omega) ?_; intro v' w3 hown3 hg3 hnil3 hat3))
      have hB3 : Below w2.heap.size w2 (w2.alloc (.cells (encPol ⟨x, .slice a2 x.outs.length c2, .slice a2' x.ins.length c2'⟩).toArray 59)) := (Below.refl _ w2).alloc (Nat.le_refl _) _
      refine ⟨⟨k + 1, ys ++ [⟨x, .slice a2 x.outs.length c2, .slice a2' x.ins.length c2'⟩], by omega, by go_num, cpy_take HYS.out HX.out, ?_, ?_⟩, by simp [intOf]; omega⟩
      · exact Up.app NPol.mono (m := wr.heap.size + 1) (HU2.out.grow NPol.mono hB3) (by omega) (fun g hg => by have := (HU.out.lt g hg).2; omega) ⟨⟨a2, c2, rfl, rdRules.sub (Sub.grow hB3) hB3.size HR2.out⟩, a2', c2', rfl, rdRules.sub (Sub.grow hB3) hB3.size HR2'.out⟩ hown3 hg3 hat3
      · exact own_below (((HBW.out.trans (HB2.out.mono hws))).trans (hB3.mono (by omega))) (by rw [World.size_alloc]; omega) (HU2.out.1.alloc _) hg3
    · go_wp2
      have he : l.take k = l := List.take_of_length_le (by omega)
      obtain ⟨a2, c2, rfl, hc2, hr2⟩ := upPols_done HU.out (by omega)
      rw [HYS.out, he] at hc2 hr2 ⊢
      go_ret
      exact ⟨⟨a2, c2, rfl, hc2, hr2⟩, hbw⟩
end Go.Proofs.YtmkjlhplgcifiaaGreat
namespace Go.Proofs.YtmkjlhplgcifiaaGreat
open Go.ChangeShapes Go.WideShapes Go.ChangeAt Go.RowKit
attribute [local simp] World.cell?_grow
attribute [local go_sem] World.cell?_grow
attribute [local simp] World.cell?_alloc_there
attribute [local go_sem] World.cell?_alloc_there
attribute [local go_sem] eqg_blk std_blk eqg_pod std_pod eqg_sel std_sel eqg_prt std_prt
attribute [local go_sem ↓] eql_blk eql_sel neq_sel eql_prt eql_pod
attribute [local go_sem ↓] met_in1 met_in2 met_re1 met_re2
attribute [local go_sem ↓] met_has1 met_has2
attribute [local go_sem ↓] met_bl1 met_bl2
set_option linter.unusedVariables false
set_option linter.unusedSimpArgs false
theorem far6 {w : World} {n b o : Nat} {u a0 a1 a2 a3 a4 a5 : Value} (h : w.cell? ⟨b, o, none⟩ = some u) (hne : n ≠ b) :
    ((((((w.setCell ⟨n, 0, none⟩ a0).setCell ⟨n, 1, none⟩ a1).setCell ⟨n, 2, none⟩ a2).setCell ⟨n, 3, none⟩ a3).setCell ⟨n, 4, none⟩ a4).setCell ⟨n, 5, none⟩ a5).cell? ⟨b, o, none⟩ = some u :=
  keep_far (keep_far (keep_far (keep_far (keep_far (keep_far h hne) hne) hne) hne) hne) hne
theorem set6_blk {w : World} {n : Nat} {t : TypeId} {z0 z1 z2 z3 z4 z5 a0 a1 a2 a3 a4 a5 : Value} (h : w.heap[n]? = some (.cells #[z0, z1, z2, z3, z4, z5] t (0, 0))) :
    ((((((w.setCell ⟨n, 0, none⟩ a0).setCell ⟨n, 1, none⟩ a1).setCell ⟨n, 2, none⟩ a2).setCell ⟨n, 3, none⟩ a3).setCell ⟨n, 4, none⟩ a4).setCell ⟨n, 5, none⟩ a5).heap[n]? = some (.cells #[a0, a1, a2, a3, a4, a5] t (0, 0)) :=
  set_blk (set_blk (set_blk (set_blk (set_blk (set_blk h 0 a0) 1 a1) 2 a2) 3 a3) 4 a4) 5 a5
theorem set6_below {B : Nat} {w w' : World} {n : Nat} {a0 a1 a2 a3 a4 a5 : Value} (h : Below B w w') (hn : B ≤ n) :
    Below B w ((((((w'.setCell ⟨n, 0, none⟩ a0).setCell ⟨n, 1, none⟩ a1).setCell ⟨n, 2, none⟩ a2).setCell ⟨n, 3, none⟩ a3).setCell ⟨n, 4, none⟩ a4).setCell ⟨n, 5, none⟩ a5) :=
  (((((h.setCell hn _).setCell hn _).setCell hn _).setCell hn _).setCell hn _).setCell hn _
end Go.Proofs.YtmkjlhplgcifiaaGreat
