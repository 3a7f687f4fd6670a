/-
  palisade: follow, AddPod, DropPod.
-/
import Derived.Test.YtmkjlhplgcifiaaGreatH42
import Derived.Test.YtmkjlhplgcifiaaGreatH47
import Derived.Test.YtmkjlhplgcifiaaGreatH27
namespace Go.Proofs.YtmkjlhplgcifiaaGreat
open Go.ChangeShapes Go.WideShapes Go.ChangeAt Go.RowKit
set_option linter.unusedVariables false
set_option linter.unusedSimpArgs false
attribute [local simp] World.cell?_grow World.cell?_alloc_there
attribute [local go_sem] World.cell?_grow World.cell?_alloc_there eqg_blk std_blk eqg_pod std_pod eqg_sel std_sel eqg_prt std_prt eqg_row std_row
attribute [local go_sem ↓] eql_blk eql_sel neq_sel eql_prt eql_pod met_in1 met_in2 met_re1 met_re2 met_has1 met_has2 met_bl1 met_bl2 neq_row
theorem pods_cells {B : Nat} {w : World} {a : Option Addr} {l : List DPod} (h : rdPods B w a l) : RdSl B w 4 32 (eCells encPod) a l :=
  ⟨h.1, fun i x hx => let ⟨b, off, e, hb, he⟩ := h.2 i x hx; ⟨b, off, e, hb, ePod_cells he⟩⟩
set_option maxRecDepth 100000 in
theorem keepDrop (f : DPod → Bool) (k0 : Value) (a : Option Addr) (cap : Nat) (l : List DPod) (w : World) (hl : rdPods w.heap.size w a l)
    (hK : ∀ (x : DPod) (w1 : World), x ∈ l → Below w.heap.size w w1 → Calls Tryz.prog 70 #[.agg #[.int .i64 x.host, .int .i64 x.ip, .int .i64 x.space, .int .i64 x.labels], k0] w1 fun e w2 => e = .returned (.bool (f x)) ∧ Below w1.heap.size w1 w2) :
    Calls Tryz.prog 69 #[.slice a l.length cap, .func (.func 70) #[] #[k0]] w fun e w' => (∃ v, e = .returned v ∧ w'.ownsRow w.heap.size 54 4 v (l.filter f).length ((l.filter f).flatMap encPod)) ∧ Below w.heap.size w w' := by
  have HK := hid hK
  obtain ⟨hlen, hl⟩ := hl
  have HL := hid hl
  clear hl hK
  obtain ⟨i0, hi, iz0, iz1, iz2⟩ := info_parts info_pod
  go_enter Tryz.func69, Tryz.ntmps69
  go_wp2
  go_loopw [5, 10] (fun kv i wr => ∃ k : Nat, k ≤ l.length ∧ i = .int .i64 k ∧ wr.ownsRow w.heap.size 54 4 kv ((l.take k).filter f).length (((l.take k).filter f).flatMap encPod) ∧ Below w.heap.size w wr) (fun _ i _ => l.length - (intOf i).toNat)
  case atStart => exact ⟨0, Nat.zero_le _, rfl, World.ownsRow_nil _ _ _ _, Below.refl _ _⟩
  case round =>
    obtain ⟨k, hk, rfl, hown, hbw⟩ := hrel
    have HO := hid hown
    clear hown
    have hfl := filter_le l f k
    by_cases hlt : k < l.length
    · obtain ⟨hc, hf⟩ := bcell hbw
      obtain ⟨x, hxk⟩ : ∃ x, l[k]? = some x := ⟨l[k], by simp [hlt]⟩
      have HX := hid hxk
      clear hxk
      obtain ⟨b, off, rfl, hb, c0, c1, c2, c3⟩ := HL.out k x HX.out
      cases hx : f x
      · go_wp2_with (go_at_call 70; refine (HK.out x _ (List.mem_of_getElem? HX.out) bel).mono ?_; rintro e w1 ⟨rfl, hb1⟩; obtain ⟨hc1, hf1⟩ := bcell hb1; have hz1 := hb_lt hb1)
        exact ⟨⟨k + 1, by omega, by go_num, by rw [take_filter' HX.out hx]; exact own_to (HO.out.alloc _) hb1, bel⟩, by simp [intOf]; omega⟩
      · go_wp2_with (first
          | (go_at_call 70; refine (HK.out x _ (List.mem_of_getElem? HX.out) bel).mono ?_; rintro e w1 ⟨rfl, hb1⟩; obtain ⟨hc1, hf1⟩ := bcell hb1; have hz1 := hb_lt hb1; have HO1 := hid (own_to (HO.out.alloc (.cells #[.int .i64 x.host, .int .i64 x.ip, .int .i64 x.space, .int .i64 x.labels] 54)) hb1); have hW1 : Below w.heap.size w w1 := bel)
          | (at_builtin; go_loud (refine wpList_append_own _ rfl _ _ 25 rfl w.heap.size 54 i0 _ 4 32 Tryz.underlying25 hi iz0 iz1 iz2 rfl (by decide) _ _ _ rfl (HO1.out.alloc _) ⟨w1.heap.size, 0, none⟩ 1 1 [.int .i64 x.host, .int .i64 x.ip, .int .i64 x.space, .int .i64 x.labels] rfl rfl (cell_new_list _ [.int .i64 x.host, .int .i64 x.ip, .int .i64 x.space, .int .i64 x.labels] _) (fun u hu => by simp at hu; rcases hu with rfl | rfl | rfl | rfl <;> rfl) (by unfold maxLen; omega) (by omega) (by have := hW1.size; simp; omega) ?_); intro v' w3 hown' hg3 hn3))
        exact ⟨⟨k + 1, by omega, by go_num, by rw [take_filter HX.out hx]; simpa [encPod] using hown', own_below (hW1.alloc hW1.size _) (by have := hW1.size; simp; omega) (HO1.out.alloc _) hg3⟩, by simp [intOf]; omega⟩
    · go_wp2
      have he : l.take k = l := List.take_of_length_le (by omega)
      have ho := HO.out
      rw [he] at ho hfl
      go_ret
      exact ⟨⟨_, rfl, ho⟩, hbw⟩
def Chg (tb : Nat) (c' : DClu) (w w' : World) : Prop :=
  ((right c').1 = 0 → (∃ u0 u1 u2, w'.heap[tb]? = some (.cells #[u0, u1, u2] 94 (0, 0)) ∧ TabC w'.heap.size (hide w' (low w.heap.size)) u0 u1 u2 c') ∧ w.grownBy w' (some tb)) ∧ (¬ (right c').1 = 0 → Below w.heap.size w w')
theorem Chg.pre {tb : Nat} {c' : DClu} {w W w' : World} (hb : Below w.heap.size w W) (h : Chg tb c' W w') : Chg tb c' w w' := by
  refine ⟨fun hr => ?_, fun hr => Ext.trans hb (h.2 hr)⟩
  obtain ⟨⟨u0, u1, u2, h1, h2⟩, h3⟩ := h.1 hr
  exact ⟨⟨u0, u1, u2, h1, h2.sub (BSub.hide fun b _ hG => ⟨low_false.2 (Nat.le_trans hb.size (low_false.1 hG)), rfl⟩) (Nat.le_refl _)⟩, ⟨h3.os.trans hb.os, h3.tape.trans hb.tape, h3.output.trans hb.output, Nat.le_trans hb.size h3.size, fun k hk hne => (h3.block k (Nat.lt_of_lt_of_le hk hb.size) hne).trans (hb.block k hk)⟩⟩
set_option maxRecDepth 100000 in
set_option maxHeartbeats 2000000 in
theorem follow_any (c : DClu) (tb : Nat) (x0 x1 x2 : Value) (pa qa : Option Addr) (pc qc : Nat) (w : World) (ht : w.heap[tb]? = some (.cells #[x0, x1, x2] 94 (0, 0))) (hp : rdPods w.heap.size w pa c.pods) (hq : rdPols w.heap.size w qa c.pols) (hpc : c.pods.length ≤ pc) :
    Calls Tryz.prog 46 #[.pointer (some ⟨tb, 0, none⟩), .agg #[.slice pa c.pods.length pc, .slice qa c.pols.length qc]] w fun e w' => e = .returned (.int .i64 (right c).1) ∧ Chg tb c w w' := by
  have HC := hid (show ∀ W, Below w.heap.size w W → Calls Tryz.prog 34 #[.pointer (some ⟨tb, 0, none⟩), .agg #[.slice pa c.pods.length pc, .slice qa c.pols.length qc]] W fun e w' => (∃ z, e = .returned (.tuple #[.int .i64 (right c).1, .int .i64 z])) ∧ Chg tb c w w' from fun W hb => by
    by_cases hr : (right c).1 = 0
    · refine (become_ok c tb x0 x1 x2 pa qa pc qc W ((hb.block tb (Array.getElem?_eq_some_iff.1 ht).1).trans ht) (rdPods.to hp hb) (rdPols.to hq hb) hpc hr).mono fun e w' ⟨he, h1, h2⟩ => ⟨⟨0, by rw [hr]; exact he⟩, Chg.pre hb ⟨fun _ => ⟨h1, h2⟩, fun h => absurd hr h⟩⟩
    · exact (become_err c tb pa qa pc qc W (rdPods.to hp hb) (rdPols.to hq hb) hpc hr).mono fun e w' ⟨he, h1⟩ => ⟨⟨_, he⟩, Chg.pre hb ⟨fun h => absurd h hr, fun _ => h1⟩⟩)
  clear ht hp hq
  go_enter Tryz.func46, Tryz.ntmps46
  go_wp2_with fail
  refine (HC.out _ bel).mono ?_
  rintro e w1 ⟨⟨z, rfl⟩, hc⟩
  have H := hid hc
  clear hc
  go_wp2
  go_ret
  exact ⟨rfl, H.out⟩
set_option maxRecDepth 100000 in
set_option maxHeartbeats 4000000 in
theorem addPod_any (p : DPod) (tb : Nat) (u2 : Value) (c : DClu) (pa qa : Option Addr) (pc qc : Nat) (w : World) (ht : w.heap[tb]? = some (.cells #[.slice pa c.pods.length pc, .slice qa c.pols.length qc, u2] 94 (0, 0))) (hp : rdPods w.heap.size w pa c.pods) (hq : rdPols w.heap.size w qa c.pols) (hr : (right c).1 = 0) :
    Calls Tryz.prog 27 #[.pointer (some ⟨tb, 0, none⟩), .agg #[.int .i64 p.host, .int .i64 p.ip, .int .i64 p.space, .int .i64 p.labels]] w fun e w' => e = .returned (.int .i64 (right ⟨c.pods ++ [p], c.pols⟩).1) ∧ Chg tb ⟨c.pods ++ [p], c.pols⟩ w w' := by
  obtain ⟨l1, l2⟩ := right_lens hr
  have HP := hid hp
  have HQ := hid hq
  have HT := hid ht
  have htl : tb < w.heap.size := (Array.getElem?_eq_some_iff.1 ht).1
  have t0 : w.cell? ⟨tb, 0, none⟩ = some (.slice pa c.pods.length pc) := (blk_cell ht 0).trans rfl
  have t1 : w.cell? ⟨tb, 1, none⟩ = some (.slice qa c.pols.length qc) := (blk_cell ht 1).trans rfl
  clear hp hq ht hr
  obtain ⟨D, hD⟩ : ∃ D, D = c.pods ++ [p] := ⟨_, rfl⟩
  rw [← hD]
  have HD := hid hD
  clear hD
  go_enter Tryz.func27, Tryz.ntmps27
  go_wp2_with fail
  generalize hW : ((((w.alloc (Obj.cells #[.int .i64 p.host, .int .i64 p.ip, .int .i64 p.space, .int .i64 p.labels] 54)).alloc (Obj.cells #[.slice pa c.pods.length pc, .slice qa c.pols.length qc] 28)).alloc (Obj.cells #[.int .i64 p.host, .int .i64 p.ip, .int .i64 p.space, .int .i64 p.labels] 54)).alloc (Obj.cells #[.slice pa c.pods.length pc, .slice (some ⟨w.heap.size + 1 + 1, 0, none⟩) 1 1] 25)) = W
  have HSW := hid (show W.heap.size = w.heap.size + 4 by rw [← hW]; simp)
  have HBW := hid (show Below w.heap.size w W from by rw [← hW]; exact bel)
  have KB := hid (show W.heap[w.heap.size + 1]? = some (.cells #[.slice pa c.pods.length pc, .slice qa c.pols.length qc] 28 (0, 0)) from by
    rw [← hW]
    have := new_heap (w.alloc (Obj.cells #[.int .i64 p.host, .int .i64 p.ip, .int .i64 p.space, .int .i64 p.labels] 54)) (.cells #[.slice pa c.pods.length pc, .slice qa c.pols.length qc] 28)
    simp only [World.size_alloc] at this
    exact (Below.heap_alloc _ _ _ (by simp only [World.size_alloc]; omega)).trans ((Below.heap_alloc _ _ _ (by simp only [World.size_alloc]; omega)).trans this))
  have s0 : W.cell? ⟨w.heap.size + 1 + 1 + 1, 0, none⟩ = some (.slice pa c.pods.length pc) := by rw [← hW]; simp [go_sem]
  have s1 : W.cell? ⟨w.heap.size + 1 + 1 + 1, 1, none⟩ = some (.slice (some ⟨w.heap.size + 1 + 1, 0, none⟩) 1 1) := by rw [← hW]; simp [go_sem]
  have p0 : W.cell? ⟨w.heap.size + 1 + 1, 0, none⟩ = some (.int .i64 p.host) := by rw [← hW]; simp [go_sem]
  have p1 : W.cell? ⟨w.heap.size + 1 + 1, 1, none⟩ = some (.int .i64 p.ip) := by rw [← hW]; simp [go_sem]
  have p2 : W.cell? ⟨w.heap.size + 1 + 1, 2, none⟩ = some (.int .i64 p.space) := by rw [← hW]; simp [go_sem]
  have p3 : W.cell? ⟨w.heap.size + 1 + 1, 3, none⟩ = some (.int .i64 p.labels) := by rw [← hW]; simp [go_sem]
  clear hW t0 t1
  refine (concatPod c.pods [p] pa (some ⟨w.heap.size + 1 + 1, 0, none⟩) pc 1 (w.heap.size + 1 + 1 + 1) W (pods_cells (rdPods.to HP.out HBW.out)) (pods_cells (rd_one (by decide) (by have := HSW.out; omega) ⟨p0, p1, p2, p3⟩)) (by omega) (by simp) (encPods_one _) (encPods_one _) s0 s1).mono ?_
  rw [← HD.out]
  rintro e w1 ⟨v, rfl, ho, hb1⟩
  obtain ⟨va, vc, hv, hvc, _⟩ := own_slice ho
  subst hv
  have HO := hid ho
  have HB1 := hid hb1
  have kb1 := (hb1.block (w.heap.size + 1) (by have := HSW.out; omega)).trans KB.out
  have m0 := blk_cell kb1
  have mf := blk_frozen kb1
  clear ho hb1 kb1 s0 s1 p0 p1 p2 p3
  go_wp2_with fail
  generalize hX : w1.setCell ⟨w.heap.size + 1, 0, none⟩ (.slice va D.length vc) = X
  have hoX : X.ownsRow W.heap.size 54 4 (.slice va D.length vc) D.length (D.flatMap encPod) := by rw [← hX]; exact row_set HO.out _ _ (by show w.heap.size + 1 < _; have := HSW.out; omega)
  have hbX : Below w.heap.size w X := by rw [← hX]; exact (Ext.trans HBW.out HB1.out).setCell (by show w.heap.size ≤ w.heap.size + 1; omega) _
  clear hX m0 mf
  obtain ⟨va', vc', hv', _, hrX⟩ := own_pods hoX (by have := congrArg List.length HD.out; simp at this; omega)
  injection hv' with e1 e2 e3
  subst e1
  refine (follow_any ⟨D, c.pols⟩ tb _ _ _ va qa vc qc X ((hbX.block tb htl).trans HT.out) hrX (rdPols.to HQ.out hbX) hvc).mono ?_
  rintro e w2 ⟨rfl, hc⟩
  have HC := hid (Chg.pre hbX hc)
  clear hc hoX hbX hrX
  go_wp2
  go_ret
  exact ⟨rfl, HC.out⟩
theorem dropClo (p : DPod) (ip : Int) (kb : Nat) (w : World) (h : w.cell? ⟨kb, 0, none⟩ = some (.int .i64 ip)) :
    Calls Tryz.prog 70 #[.agg #[.int .i64 p.host, .int .i64 p.ip, .int .i64 p.space, .int .i64 p.labels], .pointer (some ⟨kb, 0, none⟩)] w fun e w' => e = .returned (.bool (decide (p.ip ≠ ip))) ∧ Below w.heap.size w w' := by
  go_enter Tryz.func70, Tryz.ntmps70
  go_wp2
  go_ret
  exact ⟨by by_cases e : p.ip = ip <;> simp [e], bel⟩
set_option maxRecDepth 100000 in
set_option maxHeartbeats 4000000 in
theorem dropPod_none (ip : Int) (tb : Nat) (u2 : Value) (c : DClu) (pa qa : Option Addr) (pc qc : Nat) (w : World) (ht : w.heap[tb]? = some (.cells #[.slice pa c.pods.length pc, .slice qa c.pols.length qc, u2] 94 (0, 0))) (hp : rdPods w.heap.size w pa c.pods) (hq : rdPols w.heap.size w qa c.pols) (hr : (right c).1 = 0) (hn : podAt c.pods ip = none) :
    Calls Tryz.prog 43 #[.pointer (some ⟨tb, 0, none⟩), .int .i64 ip] w fun e w' => e = .returned (.int .i64 6) ∧ Below w.heap.size w w' := by
  have HTK := hid (show ∀ W, Below w.heap.size w W → Calls Tryz.prog 68 #[.slice pa c.pods.length pc, .int .i64 ip] W fun e w' => e = .returned (.bool false) ∧ Below W.heap.size W w' from fun W hb => by have := taken_any pa pc c.pods ip W (rdPods.to hp hb); rw [hn] at this; exact this)
  have t0 : w.cell? ⟨tb, 0, none⟩ = some (.slice pa c.pods.length pc) := (blk_cell ht 0).trans rfl
  have t1 : w.cell? ⟨tb, 1, none⟩ = some (.slice qa c.pols.length qc) := (blk_cell ht 1).trans rfl
  clear hp hq ht hr
  go_enter Tryz.func43, Tryz.ntmps43
  go_wp2_with fail
  have hB : Below w.heap.size w ((w.alloc (.cells #[.int .i64 ip] 3)).alloc (.cells #[.slice pa c.pods.length pc, .slice qa c.pols.length qc] 28)) := bel
  refine (HTK.out _ hB).mono ?_
  rintro e w1 ⟨rfl, hb1⟩
  have HB := hid (Ext.trans hB hb1)
  clear hb1 hB
  go_wp2
  go_ret
  exact ⟨rfl, HB.out⟩
set_option maxRecDepth 100000 in
set_option maxHeartbeats 4000000 in
theorem dropPod_some (ip : Int) (tb : Nat) (u2 : Value) (c : DClu) (pa qa : Option Addr) (pc qc : Nat) (w : World) (ht : w.heap[tb]? = some (.cells #[.slice pa c.pods.length pc, .slice qa c.pols.length qc, u2] 94 (0, 0))) (hp : rdPods w.heap.size w pa c.pods) (hq : rdPols w.heap.size w qa c.pols) (hr : (right c).1 = 0) (hn : (podAt c.pods ip).isSome = true) :
    Calls Tryz.prog 43 #[.pointer (some ⟨tb, 0, none⟩), .int .i64 ip] w fun e w' => e = .returned (.int .i64 0) ∧ Chg tb ⟨c.pods.filter fun q => decide (q.ip ≠ ip), c.pols⟩ w w' := by
  have HTK := hid (show ∀ W, Below w.heap.size w W → Calls Tryz.prog 68 #[.slice pa c.pods.length pc, .int .i64 ip] W fun e w' => e = .returned (.bool true) ∧ Below W.heap.size W w' from fun W hb => by have := taken_any pa pc c.pods ip W (rdPods.to hp hb); rw [hn] at this; exact this)
  have HRR := hid (right_dropPod hr fun q => decide (q.ip ≠ ip))
  obtain ⟨l1, l2⟩ := right_lens hr
  have HP := hid hp
  have HQ := hid hq
  have HT := hid ht
  have htl : tb < w.heap.size := (Array.getElem?_eq_some_iff.1 ht).1
  have t0 : w.cell? ⟨tb, 0, none⟩ = some (.slice pa c.pods.length pc) := (blk_cell ht 0).trans rfl
  have t1 : w.cell? ⟨tb, 1, none⟩ = some (.slice qa c.pols.length qc) := (blk_cell ht 1).trans rfl
  clear hp hq ht hr
  obtain ⟨D, hD⟩ : ∃ D, D = c.pods.filter fun q => decide (q.ip ≠ ip) := ⟨_, rfl⟩
  rw [← hD] at HRR ⊢
  have hDl : D.length ≤ 8 := by rw [hD]; exact Nat.le_trans (List.length_filter_le _ _) l1
  have HD := hid hD
  clear hD
  go_enter Tryz.func43, Tryz.ntmps43
  go_wp2_with fail
  generalize hW : ((w.alloc (.cells #[.int .i64 ip] 3)).alloc (.cells #[.slice pa c.pods.length pc, .slice qa c.pols.length qc] 28)) = W
  have HSW := hid (show W.heap.size = w.heap.size + 2 by rw [← hW]; simp)
  have HBW := hid (show Below w.heap.size w W from by rw [← hW]; exact bel)
  have KB := hid (show W.heap[w.heap.size + 1]? = some (.cells #[.slice pa c.pods.length pc, .slice qa c.pols.length qc] 28 (0, 0)) from by
    rw [← hW]
    have := new_heap (w.alloc (Obj.cells #[.int .i64 ip] 3)) (.cells #[.slice pa c.pods.length pc, .slice qa c.pols.length qc] 28)
    simp only [World.size_alloc] at this
    exact this)
  have KI := hid (show W.cell? ⟨w.heap.size, 0, none⟩ = some (.int .i64 ip) by rw [← hW]; simp [go_sem])
  clear hW t0 t1
  refine (HTK.out W HBW.out).mono ?_
  rintro e w1 ⟨rfl, hb1⟩
  have HB1 := hid hb1
  have hs1 := hb1.size
  have KB1 := hid ((hb1.block (w.heap.size + 1) (by have := HSW.out; omega)).trans KB.out)
  have KI1 := hid (cell_to KI.out hb1)
  have HBw1 := hid (Ext.trans HBW.out hb1)
  have m0 := blk_cell KB1.out
  clear hb1
  go_wp2_with fail
  refine (keepDrop (fun q => decide (q.ip ≠ ip)) (.pointer (some ⟨w.heap.size, 0, none⟩)) pa pc c.pods w1 (rdPods.to HP.out HBw1.out) (fun x w2 _ hb2 => dropClo x ip w.heap.size w2 (cell_to KI1.out hb2))).mono ?_
  rw [← HD.out]
  rintro e w2 ⟨⟨v, rfl, ho⟩, hb2⟩
  obtain ⟨va, vc, hv, hvc, _⟩ := own_slice ho
  subst hv
  have HO := hid ho
  have HB2 := hid (Ext.trans HBw1.out hb2)
  have kb2 := (hb2.block (w.heap.size + 1) (by have := HSW.out; omega)).trans KB1.out
  have n0 := blk_cell kb2
  have nf := blk_frozen kb2
  clear ho hb2 kb2 m0
  go_wp2_with fail
  generalize hX : w2.setCell ⟨w.heap.size + 1, 0, none⟩ (.slice va D.length vc) = X
  have hoX : X.ownsRow w1.heap.size 54 4 (.slice va D.length vc) D.length (D.flatMap encPod) := by rw [← hX]; exact row_set HO.out _ _ (by show w.heap.size + 1 < _; have := HSW.out; omega)
  have hbX : Below w.heap.size w X := by rw [← hX]; exact HB2.out.setCell (by show w.heap.size ≤ w.heap.size + 1; omega) _
  clear hX n0 nf
  obtain ⟨va', vc', hv', _, hrX⟩ := own_pods hoX (by omega)
  injection hv' with e1 e2 e3
  subst e1
  refine (follow_any ⟨D, c.pols⟩ tb _ _ _ va qa vc qc X ((hbX.block tb htl).trans HT.out) hrX (rdPols.to HQ.out hbX) hvc).mono ?_
  rw [HRR.out]
  rintro e w3 ⟨rfl, hc⟩
  have HC := hid (Chg.pre hbX hc)
  clear hc hoX hbX hrX
  go_wp2
  go_ret
  exact ⟨rfl, HC.out⟩
theorem list_at {α β : Type} {l : List α} (Q : Nat → α → β → Prop) (h : ∀ i x, l[i]? = some x → ∃ y, Q i x y) : ∃ m : List β, m.length = l.length ∧ ∀ i y, m[i]? = some y → ∃ x, l[i]? = some x ∧ Q i x y := by
  induction l generalizing Q with
  | nil => exact ⟨[], rfl, fun i y hy => by simp at hy⟩
  | cons x l ih =>
    obtain ⟨y, hy⟩ := h 0 x rfl
    obtain ⟨m, hm, hq⟩ := ih (fun i x y => Q (i + 1) x y) (fun i x hx => h (i + 1) x hx)
    refine ⟨y :: m, by simp [hm], fun i z hz => ?_⟩
    cases i with
    | zero => cases hz; exact ⟨x, rfl, hy⟩
    | succ i => obtain ⟨x', h1, h2⟩ := hq i z (by simpa using hz); exact ⟨x', by simpa using h1, h2⟩
theorem pols_cells {B : Nat} {w : World} {a : Option Addr} {l : List DPol} (h : rdPols B w a l) : ∃ R : List RPol, R.map (·.d) = l ∧ RdSl B w 6 80 (eCells encPol) a R ∧ ∀ r ∈ R, r.ok B w := by
  obtain ⟨R, hl, hR⟩ := list_at (l := l) (fun i x (r : RPol) => r.d = x ∧ r.ok B w ∧ ∃ b off, a = some ⟨b, off, none⟩ ∧ b < B ∧ eCells encPol B w b (off + i * 6) r) fun i x hx => by
    obtain ⟨b, off, e, hb, h0, h1, h2, h3, ⟨oa, oc, h4, h5⟩, ia, ic, h6, h7⟩ := h.2 i x hx
    refine ⟨⟨x, .slice oa x.outs.length oc, .slice ia x.ins.length ic⟩, rfl, ⟨⟨oa, oc, rfl, h5⟩, ia, ic, rfl, h7⟩, b, off, e, hb, fun j u hj => ?_⟩
    have hj6 : j < 6 := (List.getElem?_eq_some_iff.1 hj).1
    match j, hj6 with
    | 0, _ => cases hj; exact h0
    | 1, _ => cases hj; exact h1
    | 2, _ => cases hj; exact h2
    | 3, _ => cases hj; exact h3
    | 4, _ => cases hj; exact h4
    | 5, _ => cases hj; exact h6
  refine ⟨R, ?_, ⟨by rw [hl]; exact h.1, fun i r hr => ?_⟩, fun r hr => ?_⟩
  · refine List.ext_getElem? fun i => ?_
    rw [List.getElem?_map]
    cases hr : R[i]? with
    | none => rw [List.getElem?_eq_none_iff] at hr; rw [hl] at hr; rw [List.getElem?_eq_none hr]; rfl
    | some r => obtain ⟨x, h1, h2, _⟩ := hR i r hr; rw [h1]; simp [h2]
  · obtain ⟨x, _, _, _, b, off, e, hb, h2⟩ := hR i r hr
    exact ⟨b, off, e, hb, h2⟩
  · obtain ⟨i, hi⟩ := List.mem_iff_getElem?.1 hr
    obtain ⟨x, _, _, h2, _⟩ := hR i r hi
    exact h2
theorem encPols_ones {B : Nat} {w : World} {R : List RPol} (h : ∀ r ∈ R, r.ok B w) : ∀ u ∈ R.flatMap encPol, u.oneCell' = true := by
  intro u hu
  obtain ⟨r, hr, hx⟩ := List.mem_flatMap.1 hu
  obtain ⟨⟨oa, oc, ho, _⟩, ia, ic, hi, _⟩ := h r hr
  simp only [encPol, ho, hi, List.mem_cons, List.not_mem_nil, or_false] at hx
  rcases hx with rfl | rfl | rfl | rfl | rfl | rfl <;> rfl
theorem pol_cells {B : Nat} {w : World} {b : Nat} {p : DPol} {vo vi : Value} (p0 : w.cell? ⟨b, 0, none⟩ = some (.int .i64 p.space)) (p1 : w.cell? ⟨b, 1, none⟩ = some (.int .i64 p.need)) (p2 : w.cell? ⟨b, 2, none⟩ = some (.int .i64 p.ban)) (p3 : w.cell? ⟨b, 3, none⟩ = some (.int .i64 p.ways)) (p4 : w.cell? ⟨b, 4, none⟩ = some vo) (p5 : w.cell? ⟨b, 5, none⟩ = some vi) : eCells encPol B w b 0 ⟨p, vo, vi⟩ := fun j u hj => by
  rw [Nat.zero_add]
  have hj6 : j < 6 := (List.getElem?_eq_some_iff.1 hj).1
  match j, hj6 with
  | 0, _ => cases hj; exact p0
  | 1, _ => cases hj; exact p1
  | 2, _ => cases hj; exact p2
  | 3, _ => cases hj; exact p3
  | 4, _ => cases hj; exact p4
  | 5, _ => cases hj; exact p5
theorem follow_len (c : DClu) (tb : Nat) (x0 x1 x2 : Value) (pa qa : Option Addr) (pc qc m n : Nat) (w : World) (hm : c.pods.length = m) (hn : c.pols.length = n) (ht : w.heap[tb]? = some (.cells #[x0, x1, x2] 94 (0, 0))) (hp : rdPods w.heap.size w pa c.pods) (hq : rdPols w.heap.size w qa c.pols) (hpc : c.pods.length ≤ pc) :
    Calls Tryz.prog 46 #[.pointer (some ⟨tb, 0, none⟩), .agg #[.slice pa m pc, .slice qa n qc]] w fun e w' => e = .returned (.int .i64 (right c).1) ∧ Chg tb c w w' := by
  subst hm hn; exact follow_any c tb x0 x1 x2 pa qa pc qc w ht hp hq hpc
set_option maxRecDepth 100000 in
set_option maxHeartbeats 4000000 in
theorem addPol_any (p : DPol) (oa ia : Option Addr) (oc ic : Nat) (tb : Nat) (u2 : Value) (c : DClu) (pa qa : Option Addr) (pc qc : Nat) (w : World) (ht : w.heap[tb]? = some (.cells #[.slice pa c.pods.length pc, .slice qa c.pols.length qc, u2] 94 (0, 0))) (hp : rdPods w.heap.size w pa c.pods) (hq : rdPols w.heap.size w qa c.pols) (hpc : c.pods.length ≤ pc) (hqc : c.pols.length ≤ qc) (hr : (right c).1 = 0) (ho : rdRules w.heap.size w oa p.outs) (hi : rdRules w.heap.size w ia p.ins) :
    Calls Tryz.prog 28 #[.pointer (some ⟨tb, 0, none⟩), .agg #[.int .i64 p.space, .int .i64 p.need, .int .i64 p.ban, .int .i64 p.ways, .slice oa p.outs.length oc, .slice ia p.ins.length ic]] w fun e w' => e = .returned (.int .i64 (right ⟨c.pods, c.pols ++ [p]⟩).1) ∧ Chg tb ⟨c.pods, c.pols ++ [p]⟩ w w' := by
  obtain ⟨l1, l2⟩ := right_lens hr
  obtain ⟨R, hR, hrd, hok⟩ := pols_cells hq
  have hRl : R.length = c.pols.length := by rw [← hR, List.length_map]
  have HRD := hid hrd
  have HOK := hid hok
  have HP := hid hp
  have HT := hid ht
  have HR1 := hid (show (⟨p, .slice oa p.outs.length oc, .slice ia p.ins.length ic⟩ : RPol).ok w.heap.size w from ⟨⟨oa, oc, rfl, ho⟩, ia, ic, rfl, hi⟩)
  have htl : tb < w.heap.size := (Array.getElem?_eq_some_iff.1 ht).1
  have t0 : w.cell? ⟨tb, 0, none⟩ = some (.slice pa c.pods.length pc) := (blk_cell ht 0).trans rfl
  have t1 : w.cell? ⟨tb, 1, none⟩ = some (.slice qa R.length qc) := by rw [hRl]; exact (blk_cell ht 1).trans rfl
  have HRL := hid hRl
  have hR4 : R.length ≤ 4 := by omega
  clear hp hq ht hr hrd hok ho hi hRl
  obtain ⟨D, hD⟩ : ∃ D, D = R ++ [⟨p, .slice oa p.outs.length oc, .slice ia p.ins.length ic⟩] := ⟨_, rfl⟩
  have HDM := hid (show D.map (·.d) = c.pols ++ [p] by rw [hD, List.map_append, hR]; rfl)
  have HDO := hid (show ∀ r ∈ D, r.ok w.heap.size w from fun r hr => by
    rw [hD] at hr
    rcases List.mem_append.1 hr with hr | hr
    · exact HOK.out r hr
    · rw [List.mem_singleton] at hr; subst hr; exact HR1.out)
  have hDl : D.length ≤ 5 := by rw [hD]; simp; omega
  obtain ⟨C, hC⟩ : ∃ C : DClu, C = ⟨c.pods, c.pols ++ [p]⟩ := ⟨_, rfl⟩
  rw [← hC]
  have E4 := hid (show C.pods = c.pods by rw [hC])
  have E5 := hid (show C.pols = D.map (·.d) by rw [hC, HDM.out])
  clear hC
  have HD := hid hD
  clear hD hR
  go_enter Tryz.func28, Tryz.ntmps28
  go_wp2_with fail
  generalize hW : ((((w.alloc (Obj.cells #[.int .i64 p.space, .int .i64 p.need, .int .i64 p.ban, .int .i64 p.ways, .slice oa p.outs.length oc, .slice ia p.ins.length ic] 59)).alloc (Obj.cells #[.slice pa c.pods.length pc, .slice qa R.length qc] 28)).alloc (Obj.cells #[.int .i64 p.space, .int .i64 p.need, .int .i64 p.ban, .int .i64 p.ways, .slice oa p.outs.length oc, .slice ia p.ins.length ic] 59)).alloc (Obj.cells #[.slice qa R.length qc, .slice (some ⟨w.heap.size + 1 + 1, 0, none⟩) 1 1] 26)) = W
  have HSW := hid (show W.heap.size = w.heap.size + 4 by rw [← hW]; simp)
  have HBW := hid (show Below w.heap.size w W from by rw [← hW]; exact bel)
  have KB := hid (show W.heap[w.heap.size + 1]? = some (.cells #[.slice pa c.pods.length pc, .slice qa R.length qc] 28 (0, 0)) from by
    rw [← hW]
    have := new_heap (w.alloc (Obj.cells #[.int .i64 p.space, .int .i64 p.need, .int .i64 p.ban, .int .i64 p.ways, .slice oa p.outs.length oc, .slice ia p.ins.length ic] 59)) (.cells #[.slice pa c.pods.length pc, .slice qa R.length qc] 28)
    simp only [World.size_alloc] at this
    exact (Below.heap_alloc _ _ _ (by simp only [World.size_alloc]; omega)).trans ((Below.heap_alloc _ _ _ (by simp only [World.size_alloc]; omega)).trans this))
  have s0 : W.cell? ⟨w.heap.size + 1 + 1 + 1, 0, none⟩ = some (.slice qa R.length qc) := by rw [← hW]; simp [go_sem]
  have s1 : W.cell? ⟨w.heap.size + 1 + 1 + 1, 1, none⟩ = some (.slice (some ⟨w.heap.size + 1 + 1, 0, none⟩) 1 1) := by rw [← hW]; simp [go_sem]
  have p0 : W.cell? ⟨w.heap.size + 1 + 1, 0, none⟩ = some (.int .i64 p.space) := by rw [← hW]; simp [go_sem]
  have p1 : W.cell? ⟨w.heap.size + 1 + 1, 1, none⟩ = some (.int .i64 p.need) := by rw [← hW]; simp [go_sem]
  have p2 : W.cell? ⟨w.heap.size + 1 + 1, 2, none⟩ = some (.int .i64 p.ban) := by rw [← hW]; simp [go_sem]
  have p3 : W.cell? ⟨w.heap.size + 1 + 1, 3, none⟩ = some (.int .i64 p.ways) := by rw [← hW]; simp [go_sem]
  have p4 : W.cell? ⟨w.heap.size + 1 + 1, 4, none⟩ = some (.slice oa p.outs.length oc) := by rw [← hW]; simp [go_sem]
  have p5 : W.cell? ⟨w.heap.size + 1 + 1, 5, none⟩ = some (.slice ia p.ins.length ic) := by rw [← hW]; simp [go_sem]
  clear hW t0 t1
  refine (concatPol R [⟨p, .slice oa p.outs.length oc, .slice ia p.ins.length ic⟩] qa (some ⟨w.heap.size + 1 + 1, 0, none⟩) qc 1 (w.heap.size + 1 + 1 + 1) W (cells_to HRD.out HBW.out HBW.out.size) (rd_one (by decide) (by have := HSW.out; omega) (pol_cells p0 p1 p2 p3 p4 p5)) (by omega) (by simp) (encPols_ones HOK.out) (encPols_ones (B := w.heap.size) (w := w) (fun r hr => by rw [List.mem_singleton] at hr; subst hr; exact HR1.out)) s0 s1).mono ?_
  rw [← HD.out]
  rintro e w1 ⟨v, rfl, ho, hb1⟩
  obtain ⟨va, vc, hv, hvc, _⟩ := own_slice ho
  subst hv
  have HO := hid ho
  have HB1 := hid hb1
  have kb1 := (hb1.block (w.heap.size + 1) (by have := HSW.out; omega)).trans KB.out
  have m0 := blk_cell kb1
  have mf := blk_frozen kb1
  clear ho hb1 kb1 s0 s1 p0 p1 p2 p3 p4 p5
  go_wp2_with fail
  generalize hX : w1.setCell ⟨w.heap.size + 1, 1, none⟩ (.slice va D.length vc) = X
  have hoX : X.ownsRow W.heap.size 59 6 (.slice va D.length vc) D.length (D.flatMap encPol) := by rw [← hX]; exact row_set HO.out _ _ (by show w.heap.size + 1 < _; have := HSW.out; omega)
  have hbX : Below w.heap.size w X := by rw [← hX]; exact (Ext.trans HBW.out HB1.out).setCell (by show w.heap.size ≤ w.heap.size + 1; omega) _
  clear hX m0 mf
  obtain ⟨va', vc', hv', _, hrX⟩ := own_pols hoX (by omega) hbX HDO.out
  injection hv' with e1 e2 e3
  subst e1
  have q1 := (hbX.block tb htl).trans HT.out
  refine (follow_len C tb (.slice pa c.pods.length pc) (.slice qa c.pols.length qc) u2 pa va pc vc c.pods.length D.length X (by rw [E4.out]) (by rw [E5.out, List.length_map]) q1 (by rw [E4.out]; exact rdPods.to HP.out hbX) (by rw [E5.out]; exact hrX) (by rw [E4.out]; exact hpc)).mono ?_
  rintro e w2 ⟨rfl, hc⟩
  have HC := hid (Chg.pre hbX hc)
  clear hc hoX hbX hrX
  go_wp2
  go_ret
  exact ⟨rfl, HC.out⟩
end Go.Proofs.YtmkjlhplgcifiaaGreat
