/-
  Copies of policies.
-/
import Derived.Test.YtmkjlhplgcifiaaGreatH25
import Derived.Test.YtmkjlhplgcifiaaGreatH01
import Derived.Test.YtmkjlhplgcifiaaGreatH18
import Derived.Test.YtmkjlhplgcifiaaGreatH24
import Derived.Test.YtmkjlhplgcifiaaGreatH14
import Derived.Deep.RegionHeld3
import Derived.Deep.CutBlock
namespace Go.Proofs.YtmkjlhplgcifiaaGreat
open Go.ChangeShapes Go.WideShapes Go.ChangeAt Go.RowKit
set_option linter.unusedVariables false
set_option linter.unusedSimpArgs false
attribute [local simp] World.cell?_grow World.cell?_alloc_there
attribute [local go_sem] World.cell?_grow World.cell?_alloc_there eqg_blk std_blk eqg_pod std_pod eqg_sel std_sel eqg_prt std_prt
attribute [local go_sem ↓] eql_blk eql_sel neq_sel eql_prt eql_pod met_in1 met_in2 met_re1 met_re2 met_has1 met_has2 met_bl1 met_bl2
set_option maxRecDepth 100000 in
set_option maxHeartbeats 1000000 in
theorem polCopy_any (p : DPol) (oa ia : Option Addr) (oc ic : Nat) (w : World) (ho : rdRules w.heap.size w oa p.outs) (hi : rdRules w.heap.size w ia p.ins) :
    Calls Tryz.prog 60 #[.agg #[.int .i64 p.space, .int .i64 p.need, .int .i64 p.ban, .int .i64 p.ways, .slice oa p.outs.length oc, .slice ia p.ins.length ic]] w
      fun e w' => (∃ a c a' c', e = .returned (.agg #[.int .i64 p.space, .int .i64 p.need, .int .i64 p.ban, .int .i64 p.ways, .slice a p.outs.length c, .slice a' p.ins.length c']) ∧ rdRules w'.heap.size (hide w' (low w.heap.size)) a p.outs ∧ rdRules w'.heap.size (hide w' (low w.heap.size)) a' p.ins) ∧ Below w.heap.size w w' := by
  have HP := hid ho
  have HQ := hid hi
  clear ho hi
  go_enter Tryz.func60, Tryz.ntmps60
  go_wp2
  have q0 : ((w.alloc (.cells #[.int .i64 p.space, .int .i64 p.need, .int .i64 p.ban, .int .i64 p.ways, .slice oa p.outs.length oc, .slice ia p.ins.length ic] 59)).alloc (.cells #[.int .i64 0, .int .i64 0, .int .i64 0, .int .i64 0, .slice none 0 0, .slice none 0 0] 59)).heap[w.heap.size]? = some (.cells #[.int .i64 p.space, .int .i64 p.need, .int .i64 p.ban, .int .i64 p.ways, .slice oa p.outs.length oc, .slice ia p.ins.length ic] 59 (0, 0)) := (Below.heap_alloc _ _ _ (by simp)).trans (new_heap _ _)
  have q1 : ((w.alloc (.cells #[.int .i64 p.space, .int .i64 p.need, .int .i64 p.ban, .int .i64 p.ways, .slice oa p.outs.length oc, .slice ia p.ins.length ic] 59)).alloc (.cells #[.int .i64 0, .int .i64 0, .int .i64 0, .int .i64 0, .slice none 0 0, .slice none 0 0] 59)).heap[w.heap.size + 1]? = some (.cells #[.int .i64 0, .int .i64 0, .int .i64 0, .int .i64 0, .slice none 0 0, .slice none 0 0] 59 (0, 0)) := by
    have := new_heap (w.alloc (.cells #[.int .i64 p.space, .int .i64 p.need, .int .i64 p.ban, .int .i64 p.ways, .slice oa p.outs.length oc, .slice ia p.ins.length ic] 59)) (.cells #[.int .i64 0, .int .i64 0, .int .i64 0, .int .i64 0, .slice none 0 0, .slice none 0 0] 59)
    simpa only [World.size_alloc] using this
  have hB : Below w.heap.size w ((w.alloc (.cells #[.int .i64 p.space, .int .i64 p.need, .int .i64 p.ban, .int .i64 p.ways, .slice oa p.outs.length oc, .slice ia p.ins.length ic] 59)).alloc (.cells #[.int .i64 0, .int .i64 0, .int .i64 0, .int .i64 0, .slice none 0 0, .slice none 0 0] 59)) := bel
  have hS : w.heap.size + 2 ≤ ((w.alloc (.cells #[.int .i64 p.space, .int .i64 p.need, .int .i64 p.ban, .int .i64 p.ways, .slice oa p.outs.length oc, .slice ia p.ins.length ic] 59)).alloc (.cells #[.int .i64 0, .int .i64 0, .int .i64 0, .int .i64 0, .slice none 0 0, .slice none 0 0] 59)).heap.size := by simp only [World.size_alloc]; omega
  generalize (w.alloc (.cells #[.int .i64 p.space, .int .i64 p.need, .int .i64 p.ban, .int .i64 p.ways, .slice oa p.outs.length oc, .slice ia p.ins.length ic] 59)).alloc (.cells #[.int .i64 0, .int .i64 0, .int .i64 0, .int .i64 0, .slice none 0 0, .slice none 0 0] 59) = W at q0 q1 hB hS ⊢
  have x0 : W.drew.cell? ⟨w.heap.size, 4, none⟩ = some (.slice oa p.outs.length oc) := (blk_cell q0 4).trans rfl
  have x1 : W.drew.cell? ⟨w.heap.size, 5, none⟩ = some (.slice ia p.ins.length ic) := (blk_cell q0 5).trans rfl
  have HB := hid hB
  have Q0 := hid q0
  have Q1 := hid q1
  clear hB q0 q1
  refine wp_region_held_tail (S := (fun w' => w'.cell? ⟨w.heap.size, 4, none⟩ = some (.slice oa p.outs.length oc) ∧ w'.cell? ⟨w.heap.size, 5, none⟩ = some (.slice ia p.ins.length ic))) 7 (by kernel_rfl) (by kernel_rfl) ?_
  simp only [takes_7, drops_7]
  have hS0 : (fun w' : World => w'.cell? ⟨w.heap.size, 4, none⟩ = some (.slice oa p.outs.length oc) ∧ w'.cell? ⟨w.heap.size, 5, none⟩ = some (.slice ia p.ins.length ic)) W.drew := ⟨x0, x1⟩
  refine htake_0 (.pointer (some ⟨w.heap.size, 4, none⟩)) (by kernel_rfl) (by kernel_rfl) (by kernel_rfl) rfl (fun _ _ _ h => h) (fun w' hSw => by (obtain ⟨s0, s1⟩ := hSw; go_simp)) hS0 ?_
  try simp only [Act.put, List.setIfInBounds_toArray, List.set_cons_zero, List.set_cons_succ]
  refine htake_1 (.slice oa p.outs.length oc) (by kernel_rfl) (by kernel_rfl) (by kernel_rfl) rfl (fun _ _ _ h => h) (fun w' hSw => by (obtain ⟨s0, s1⟩ := hSw; go_simp)) hS0 ?_
  try simp only [Act.put, List.setIfInBounds_toArray, List.set_cons_zero, List.set_cons_succ]
  refine htake_3 (.pointer (some ⟨w.heap.size, 5, none⟩)) (by kernel_rfl) (by kernel_rfl) (by kernel_rfl) rfl (fun _ _ _ h => h) (fun w' hSw => by (obtain ⟨s0, s1⟩ := hSw; go_simp)) hS0 ?_
  try simp only [Act.put, List.setIfInBounds_toArray, List.set_cons_zero, List.set_cons_succ]
  refine htake_4 (.slice ia p.ins.length ic) (by kernel_rfl) (by kernel_rfl) (by kernel_rfl) rfl (fun _ _ _ h => h) (fun w' hSw => by (obtain ⟨s0, s1⟩ := hSw; go_simp)) hS0 ?_
  try simp only [Act.put, List.setIfInBounds_toArray, List.set_cons_zero, List.set_cons_succ]
  refine hone_2 (by kernel_rfl) rfl (fun K hK => ?_)
  go_simp
  go_at_call 98
  refine (mapRule_any p.outs oa oc W.drew (rdRules.ext HB.out.drew HB.out.size HP.out)).mono ?_
  rintro e w3 ⟨⟨a3, c3, rfl, _, hr3⟩, hb3⟩
  have z0 := cell_to x0 hb3
  have z1 := cell_to x1 hb3
  have HB3 := hid hb3
  have HR3 := hid hr3
  have hs3 : W.heap.size ≤ w3.heap.size := hb3.size
  clear hb3 hr3
  refine hK _ _ ⟨z0, z1⟩ ?_
  clear hK
  try simp only [Act.put, List.setIfInBounds_toArray, List.set_cons_zero, List.set_cons_succ]
  refine htake_6 (.pointer (some ⟨w.heap.size, 4, none⟩)) (by kernel_rfl) (by kernel_rfl) (by kernel_rfl) rfl (fun _ _ _ h => h) (fun w' hSw => by (obtain ⟨s0, s1⟩ := hSw; go_simp)) ⟨z0, z1⟩ ?_
  try simp only [Act.put, List.setIfInBounds_toArray, List.set_cons_zero, List.set_cons_succ]
  refine hone_5 (by kernel_rfl) rfl (fun K hK => ?_)
  go_simp
  go_at_call 98
  refine (mapRule_any p.ins ia ic w3 (rdRules.ext (HB.out.drew.trans (HB3.out.mono HB.out.size)) (Nat.le_trans HB.out.size HB3.out.size) HQ.out)).mono ?_
  rintro e w4 ⟨⟨a4, c4, rfl, _, hr4⟩, hb4⟩
  have v0 := cell_to z0 hb4
  have v1 := cell_to z1 hb4
  have HB4 := hid hb4
  have HR4 := hid hr4
  have hs4 : w3.heap.size ≤ w4.heap.size := hb4.size
  have n0 : w4.heap[w.heap.size]? = _ := (hb4.block _ (by omega)).trans ((HB3.out.block _ (by show _ < W.heap.size; omega)).trans Q0.out)
  have n1 : w4.heap[w.heap.size + 1]? = _ := (hb4.block _ (by omega)).trans ((HB3.out.block _ (by show _ < W.heap.size; omega)).trans Q1.out)
  have k0 := blk_cell n0
  have k1 := blk_cell n1
  have f0 := blk_frozen n0
  have f1 := blk_frozen n1
  refine hK _ _ ⟨v0, v1⟩ ?_
  refine wpAnyH_done (by kernel_rfl) ?_ _
  show wpList _ _ _ _ _ _
  try simp only [Act.put, List.setIfInBounds_toArray, List.set_cons_zero, List.set_cons_succ]
  clear hK hS0 z0 z1 v0 v1 hb4 hr4 x0 x1 n0 n1
  go_wp2
  refine bodyPost_ret (v := .agg #[.int .i64 p.space, .int .i64 p.need, .int .i64 p.ban, .int .i64 p.ways, .slice a3 p.outs.length c3, .slice a4 p.ins.length c4]) (by simp [results, Tryz.results60, go_sem, k0, k1]) rfl ⟨⟨a3, c3, a4, c4, rfl, ?_, ?_⟩, ?_⟩
  · refine rdRules.sub (Sub.trans ?_ (Sub.low (m := W.heap.size) (by omega))) (by simpa using hs4) HR3.out
    iterate 8 refine Sub.trans ?_ (Sub.set _ _ (by simp only [low, decide_eq_true_eq]; omega))
    exact Sub.grow HB4.out
  · refine rdRules.sub (Sub.trans ?_ (Sub.low (m := w3.heap.size) (by omega))) (by simp) HR4.out
    iterate 8 refine Sub.trans ?_ (Sub.set _ _ (by simp only [low, decide_eq_true_eq]; omega))
    exact Sub.refl _
  · iterate 8 refine Below.setCell ?_ (by simp) _
    exact HB.out.drew.trans ((HB3.out.mono HB.out.size).trans (HB4.out.mono (Nat.le_trans HB.out.size hs3)))
set_option maxRecDepth 100000 in
theorem mapPol_any (l : List DPol) (a : Option Addr) (cap : Nat) (w : World) (hl : rdPols w.heap.size w a l) :
    Calls Tryz.prog 59 #[.slice a l.length cap, .func (.func 60) #[] #[]] w
      fun e w' => (∃ a c, e = .returned (.slice a l.length c) ∧ l.length ≤ c ∧ rdPols w'.heap.size (hide w' (low w.heap.size)) a l) ∧ Below w.heap.size w w' := by
  have HL := hid hl
  have hlen := hl.1
  clear hl
  obtain ⟨i0, hi, iz0, iz1, iz2⟩ := info_parts info_pol
  go_enter Tryz.func59, Tryz.ntmps59
  go_wp2
  go_loopw [5, 10] (fun v i wr => ∃ (k : Nat) (ys : List RPol), k ≤ l.length ∧ i = .int .i64 k ∧ ys.map (·.d) = l.take k ∧ UpPols w.heap.size wr v ys ∧ Below w.heap.size w wr) (fun _ i _ => l.length - (intOf i).toNat)
  case atStart => exact ⟨0, [], Nat.zero_le _, rfl, rfl, Up.nil _ _, Below.refl _ _⟩
  case round =>
    obtain ⟨k, ys, hk, rfl, hys, hup, hbw⟩ := hrel
    have HYS := hid hys
    have HU := hid hup
    have HBW := hid hbw
    have hyl := cpy_len hys
    have hws := hbw.size
    clear hys hup
    by_cases hlt : k < l.length
    · obtain ⟨x, hxk⟩ : ∃ x, l[k]? = some x := ⟨l[k], by simp [hlt]⟩
      have HX := hid hxk
      obtain ⟨b, off, rfl, hb, c0, c1, c2, c3, ⟨pa, pc, c4, hrp⟩, qa, qc, c5, hrq⟩ := HL.out.2 k x hxk
      have HRP := hid hrp
      have HRQ := hid hrq
      obtain ⟨hc, hf⟩ := bcell hbw
      clear hxk hrp hrq
      go_wp2_with (first
        | (go_at_call 60; go_must (refine (polCopy_any x pa qa pc qc _ (rdRules.to HRP.out bel) (rdRules.to HRQ.out bel)).mono ?_); rintro e w2 ⟨⟨a2, c2, a2', c2', rfl, hr2, hr2'⟩, hb2⟩; have HB2 := hid (show Below wr.heap.size wr w2 from bel); have HR2 := hid (show rdRules w2.heap.size (hide w2 (low (wr.heap.size + 1))) a2 x.outs by simpa only [World.size_alloc] using hr2); have HR2' := hid (show rdRules w2.heap.size (hide w2 (low (wr.heap.size + 1))) a2' x.ins by simpa only [World.size_alloc] using hr2'); have HU2 := hid (HU.out.grow NPol.mono HB2.out); have hs2 := HB2.out.size; clear hr2 hr2' hb2)
        | (at_builtin; refine wpList_append_own_at _ rfl _ _ 26 rfl w.heap.size 59 i0 _ 6 80 Tryz.underlying26 hi iz0 iz1 iz2 rfl (by decide) _ _ _ rfl (HU2.out.1.alloc (.cells (encPol ⟨x, .slice a2 x.outs.length c2, .slice a2' x.ins.length c2'⟩).toArray 59)) ⟨w2.heap.size, 0, none⟩ 1 1 (encPol ⟨x, .slice a2 x.outs.length c2, .slice a2' x.ins.length c2'⟩) rfl rfl (cell_new_list w2 (encPol ⟨x, .slice a2 x.outs.length c2, .slice a2' x.ins.length c2'⟩) _) (by intro u hu; simp only [encPol, List.mem_cons, List.not_mem_nil, or_false] at hu; rcases hu with rfl | rfl | rfl | rfl | rfl | rfl <;> rfl) (by unfold maxLen; omega) (by omega) (by rw [World.size_alloc]; omega) ?_; intro v' w3 hown3 hg3 hnil3 hat3))
      have hB3 : Below w2.heap.size w2 (w2.alloc (.cells (encPol ⟨x, .slice a2 x.outs.length c2, .slice a2' x.ins.length c2'⟩).toArray 59)) := (Below.refl _ w2).alloc (Nat.le_refl _) _
      refine ⟨⟨k + 1, ys ++ [⟨x, .slice a2 x.outs.length c2, .slice a2' x.ins.length c2'⟩], by omega, by go_num, cpy_take HYS.out HX.out, ?_, ?_⟩, by simp [intOf]; omega⟩
      · exact Up.app NPol.mono (m := wr.heap.size + 1) (HU2.out.grow NPol.mono hB3) (by omega) (fun g hg => by have := (HU.out.lt g hg).2; omega) ⟨⟨a2, c2, rfl, rdRules.sub (Sub.grow hB3) hB3.size HR2.out⟩, a2', c2', rfl, rdRules.sub (Sub.grow hB3) hB3.size HR2'.out⟩ hown3 hg3 hat3
      · exact own_below (((HBW.out.trans (HB2.out.mono hws))).trans (hB3.mono (by omega))) (by rw [World.size_alloc]; omega) (HU2.out.1.alloc _) hg3
    · go_wp2
      have he : l.take k = l := List.take_of_length_le (by omega)
      obtain ⟨a2, c2, rfl, hc2, hr2⟩ := upPols_done HU.out (by omega)
      rw [HYS.out, he] at hc2 hr2 ⊢
      go_ret
      exact ⟨⟨a2, c2, rfl, hc2, hr2⟩, hbw⟩
end Go.Proofs.YtmkjlhplgcifiaaGreat
namespace Go.Proofs.YtmkjlhplgcifiaaGreat
open Go.ChangeShapes Go.WideShapes Go.ChangeAt Go.RowKit
set_option linter.unusedVariables false
set_option linter.unusedSimpArgs false
attribute [local simp] World.cell?_grow World.cell?_alloc_there
attribute [local go_sem] World.cell?_grow World.cell?_alloc_there eqg_blk std_blk eqg_pod std_pod eqg_sel std_sel eqg_prt std_prt eqg_row std_row
attribute [local go_sem ↓] eql_blk eql_sel neq_sel eql_prt eql_pod met_in1 met_in2 met_re1 met_re2 met_has1 met_has2 met_bl1 met_bl2 neq_row
def SubB (B : Nat) (w w' : World) : Prop := ∀ b o u, b < B → w.cell? ⟨b, o, none⟩ = some u → w'.cell? ⟨b, o, none⟩ = some u
theorem rdBlks.subB {B B' : Nat} {w w' : World} (hs : SubB B w w') (hB : B ≤ B') {a : Option Addr} {l : List DBlk} (h : rdBlks B w a l) : rdBlks B' w' a l :=
  RdSl.ext h hB fun b o x hb ⟨h0, h1⟩ => ⟨hs _ _ _ hb h0, hs _ _ _ hb h1⟩
theorem rdPods.subB {B B' : Nat} {w w' : World} (hs : SubB B w w') (hB : B ≤ B') {a : Option Addr} {l : List DPod} (h : rdPods B w a l) : rdPods B' w' a l :=
  RdSl.ext h hB fun b o x hb ⟨h0, h1, h2, h3⟩ => ⟨hs _ _ _ hb h0, hs _ _ _ hb h1, hs _ _ _ hb h2, hs _ _ _ hb h3⟩
theorem rdPorts.subB {B B' : Nat} {w w' : World} (hs : SubB B w w') (hB : B ≤ B') {a : Option Addr} {l : List DPort} (h : rdPorts B w a l) : rdPorts B' w' a l :=
  RdSl.ext h hB fun b o x hb ⟨h0, h1, h2⟩ => ⟨hs _ _ _ hb h0, hs _ _ _ hb h1, hs _ _ _ hb h2⟩
theorem rdPeers.subB {B B' : Nat} {w w' : World} (hs : SubB B w w') (hB : B ≤ B') {a : Option Addr} {l : List DPeer} (h : rdPeers B w a l) : rdPeers B' w' a l :=
  RdSl.ext h hB fun b o x hb ⟨h0, h1, h2, h3, h4, h5, a, c, h6, h7⟩ => ⟨hs _ _ _ hb h0, hs _ _ _ hb h1, hs _ _ _ hb h2, hs _ _ _ hb h3, hs _ _ _ hb h4, hs _ _ _ hb h5, a, c, hs _ _ _ hb h6, rdBlks.subB hs hB h7⟩
theorem rdRules.subB {B B' : Nat} {w w' : World} (hs : SubB B w w') (hB : B ≤ B') {a : Option Addr} {l : List DRule} (h : rdRules B w a l) : rdRules B' w' a l :=
  RdSl.ext h hB fun b o x hb ⟨⟨a, c, h0, h1⟩, a', c', h2, h3⟩ => ⟨⟨a, c, hs _ _ _ hb h0, rdPeers.subB hs hB h1⟩, a', c', hs _ _ _ hb h2, rdPorts.subB hs hB h3⟩
theorem rdPols.subB {B B' : Nat} {w w' : World} (hs : SubB B w w') (hB : B ≤ B') {a : Option Addr} {l : List DPol} (h : rdPols B w a l) : rdPols B' w' a l :=
  RdSl.ext h hB fun b o x hb ⟨h0, h1, h2, h3, ⟨a, c, h4, h5⟩, a', c', h6, h7⟩ => ⟨hs _ _ _ hb h0, hs _ _ _ hb h1, hs _ _ _ hb h2, hs _ _ _ hb h3, ⟨a, c, hs _ _ _ hb h4, rdRules.subB hs hB h5⟩, a', c', hs _ _ _ hb h6, rdRules.subB hs hB h7⟩
theorem SubB.hide {B : Nat} {w w' : World} {G G' : Nat → Bool} (h : ∀ b, b < B → G b = false → G' b = false ∧ w'.heap[b]? = w.heap[b]?) : SubB B (hide w G) (hide w' G') := fun b o u hb hu => by
  obtain ⟨h1, h2, h3⟩ := hide_out hu
  obtain ⟨k1, k2⟩ := h b hb h1
  rw [hide_cell w' G' b o k1]
  simp only [World.cell?, k2] at h3 ⊢
  exact h3
def TabV (B : Nat) (w : World) (c : DClu) (p : Int × Int) (v : Value) : Prop := ∃ (a : Addr) (cc n : Nat) (L : List DRow), v = .slice (some a) n cc ∧ n = (L ++ [lastRow]).length ∧ TabRows c p.2 p.1 c.pods L ∧ rdRows B w (some a) (L ++ [lastRow])
def TabsAt (B : Nat) (w : World) (tb : Nat) (c : DClu) : Prop := ∃ (r : Nat) (vs : List Value), tb < B ∧ r < B ∧ w.cell? ⟨tb, 2, none⟩ = some (.map (some r)) ∧ MapAt w r vs ∧ vs.length = 8 ∧ ∀ (i : Nat) (p : Int × Int) (v : Value), plist[i]? = some p → vs[i]? = some v → TabV B w c p v
theorem make_any (c : DClu) (host way : Int) (hw : way = 1 ∨ way = 2) (pa qa : Option Addr) (pc qc : Nat) (w : World) (hp : rdPods w.heap.size w pa c.pods) (hq : rdPols w.heap.size w qa c.pols) (hc : cluOk c) (hpl : c.pods.length ≤ 8) (hql : c.pols.length ≤ 4) :
    Calls Tryz.prog 61 #[.agg #[.slice pa c.pods.length pc, .slice qa c.pols.length qc], .int .i64 host, .int .i64 way] w
      fun e w' => (∃ (a : Addr) (cc n : Nat), e = .returned (.slice (some a) n cc) ∧ TabV w'.heap.size (hide w' (low w.heap.size)) c (host, way) (.slice (some a) n cc)) ∧ Below w.heap.size w w' := by
  have key : ∀ {w' : World} {a : Option Addr} {l : List DRow}, rdRows w'.heap.size (hide w' (low w.heap.size)) a (l ++ [lastRow]) → ∃ a', a = some a' := fun {w' a l} h => by
    obtain ⟨b, off, e, _⟩ := h.2 l.length lastRow (by simp)
    exact ⟨_, e⟩
  rcases hw with rfl | rfl
  · refine (make_out c host pa qa pc qc w hp hq hc hpl hql).mono ?_
    rintro e w' ⟨⟨a, cc, L, rfl, hT, hr⟩, hb⟩
    obtain ⟨a', rfl⟩ := key hr
    exact ⟨⟨a', cc, _, rfl, a', cc, _, L, rfl, rfl, hT, hr⟩, hb⟩
  · refine (make_in c host pa qa pc qc w hp hq hc hpl hql).mono ?_
    rintro e w' ⟨⟨a, cc, L, rfl, hT, hr⟩, hb⟩
    obtain ⟨a', rfl⟩ := key hr
    exact ⟨⟨a', cc, _, rfl, a', cc, _, L, rfl, rfl, hT, hr⟩, hb⟩
theorem TabV.sub {B B' : Nat} {w w' : World} {c : DClu} {p : Int × Int} {v : Value} (h : TabV B w c p v) (hw : Sub w w') (hB : B ≤ B') : TabV B' w' c p v := by
  obtain ⟨a, cc, n, L, h1, h2, h3, h4⟩ := h
  exact ⟨a, cc, n, L, h1, h2, h3, rdRows.sub hw hB h4⟩
def BSub (w w' : World) : Prop := Sub w w' ∧ ∀ (b : Nat) (es : Array MapEntry) (cl : Nat), w.heap[b]? = some (Obj.map es cl) → w'.heap[b]? = some (Obj.map es cl)
theorem BSub.hide {w w' : World} {G G' : Nat → Bool} (h : ∀ b, b < w.heap.size → G b = false → G' b = false ∧ w'.heap[b]? = w.heap[b]?) : BSub (hide w G) (hide w' G') := by
  refine ⟨Sub.hide h, fun b es cl hb => ?_⟩
  have hl : b < w.heap.size := by have := (Array.getElem?_eq_some_iff.1 hb).1; rwa [hide_size] at this
  cases hG : G b
  · obtain ⟨h1, h2⟩ := h b hl hG
    rw [hide_block _ _ _ h1, h2, ← hide_block w G b hG]; exact hb
  · simp only [Go.Proofs.YtmkjlhplgcifiaaGreat.hide, Array.getElem?_mapIdx, hG] at hb
    cases hw : w.heap[b]? <;> rw [hw] at hb <;> simp at hb
theorem BSub.show (w : World) (G : Nat → Bool) : BSub (Go.Proofs.YtmkjlhplgcifiaaGreat.hide w G) w := by
  refine ⟨Sub.show w G, fun b es cl hb => ?_⟩
  cases hG : G b
  · rw [← hide_block w G b hG]; exact hb
  · simp only [Go.Proofs.YtmkjlhplgcifiaaGreat.hide, Array.getElem?_mapIdx, hG] at hb
    cases hw : w.heap[b]? <;> rw [hw] at hb <;> simp at hb
def TabC (B : Nat) (w : World) (u0 u1 u2 : Value) (c : DClu) : Prop :=
  ∃ (r : Nat) (vs : List Value) (pa qa : Option Addr) (pc qc : Nat), u0 = .slice pa c.pods.length pc ∧ u1 = .slice qa c.pols.length qc ∧ u2 = .map (some r) ∧ r < B ∧ c.pods.length ≤ pc ∧ c.pols.length ≤ qc ∧ rdPods B w pa c.pods ∧ rdPols B w qa c.pols ∧
    MapAt w r vs ∧ vs.length = 8 ∧ ∀ (i : Nat) (p : Int × Int) (v : Value), plist[i]? = some p → vs[i]? = some v → TabV B w c p v
theorem TabC.sub {B B' : Nat} {w w' : World} {u0 u1 u2 : Value} {c : DClu} (h : TabC B w u0 u1 u2 c) (hs : BSub w w') (hB : B ≤ B') : TabC B' w' u0 u1 u2 c := by
  obtain ⟨r, vs, pa, qa, pc, qc, h1, h2, h3, h4, h5, h6, h7, h8, h9, h10, h11⟩ := h
  exact ⟨r, vs, pa, qa, pc, qc, h1, h2, h3, by omega, h5, h6, rdPods.sub hs.1 hB h7, rdPols.sub hs.1 hB h8, hs.2 _ _ _ h9, h10, fun i p v hp hv => (h11 i p v hp hv).sub hs.1 hB⟩
theorem TabC.at {w : World} {G : Nat → Bool} {tb : Nat} {t : TypeId} {u0 u1 u2 : Value} {c : DClu} (h : TabC w.heap.size (hide w G) u0 u1 u2 c) (ht : w.heap[tb]? = some (.cells #[u0, u1, u2] t (0, 0))) : TabsAt w.heap.size w tb c := by
  obtain ⟨r, vs, pa, qa, pc, qc, h1, h2, h3, h4, h5, h6, h7, h8, h9, h10, h11⟩ := h.sub (BSub.show w G) (Nat.le_refl _)
  exact ⟨r, vs, (Array.getElem?_eq_some_iff.1 ht).1, h4, by rw [blk_cell ht, h3]; rfl, h9, h10, h11⟩
theorem cell_keep {W W' : World} {r : Nat} {es : Array MapEntry} {cl : Nat} (hg : W.grownBy W' (some r)) (hm : W.heap[r]? = some (.map es cl)) {b o : Nat} {u : Value} (h : W.cell? ⟨b, o, none⟩ = some u) : W'.cell? ⟨b, o, none⟩ = some u :=
  hg.cell h (fun e => by
    cases e
    simp [World.cell?, hm] at h)
theorem put_grown (W : World) (r : Nat) (o : Obj) : W.grownBy { W with heap := W.heap.setIfInBounds r o } (some r) :=
  ⟨rfl, rfl, rfl, by simp, fun k hk hne => by simp only; rw [Array.getElem?_setIfInBounds_ne (fun e => hne (by rw [e]))]⟩
theorem ents_push : ∀ (ps : List (Int × Int)) (vs : List Value) (n : Nat) (p : Int × Int) (v : Value), ps[vs.length]? = some p → ents ps (vs ++ [v]) n = ents ps vs n ++ [⟨plKey p.1 p.2, v, n + vs.length⟩]
  | [], [], _, _, _, h => by simp at h
  | q :: ps, [], n, p, v, h => by simp at h; subst h; cases ps <;> simp [ents]
  | [], _ :: _, _, _, _, h => by simp at h
  | q :: ps, u :: vs, n, p, v, h => by
    simp only [List.cons_append, ents, List.length_cons]
    rw [ents_push ps vs (n + 1) p v (by simpa using h), Nat.add_assoc, Nat.add_comm 1]
theorem seek_none : ∀ (ps : List (Int × Int)) (vs : List Value) (i : Nat) (h y : Int), (∀ j p, j < vs.length → ps[j]? = some p → ¬ (h = p.1 ∧ y = p.2)) → seek h y ps vs i = none
  | [], _, _, _, _, _ => by simp [seek]
  | _ :: _, [], _, _, _, _ => by simp [seek]
  | p :: ps, v :: vs, i, h, y, hh => by
    rw [seek, if_neg (by have := hh 0 p (by simp) rfl; simpa using this)]
    exact seek_none ps vs (i + 1) h y fun j q hj hq => hh (j + 1) q (by simpa using hj) (by simpa using hq)
theorem plist_ne : ∀ (i : Fin 8) (j : Fin 8), j.val < i.val → ¬ ((plist[i.val]?.getD (0, 0)).1 = (plist[j.val]?.getD (0, 0)).1 ∧ (plist[i.val]?.getD (0, 0)).2 = (plist[j.val]?.getD (0, 0)).2) := by decide
theorem plist_way : ∀ i : Fin 8, (plist[i.val]?.getD (0, 0)).2 = 1 ∨ (plist[i.val]?.getD (0, 0)).2 = 2 := by decide
end Go.Proofs.YtmkjlhplgcifiaaGreat
