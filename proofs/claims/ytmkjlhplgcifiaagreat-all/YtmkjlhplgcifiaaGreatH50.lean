/-
  palisaderef: DropPolicy.
-/
import Derived.Test.YtmkjlhplgcifiaaGreatH49
import Derived.Test.YtmkjlhplgcifiaaGreatH07
namespace Go.Proofs.YtmkjlhplgcifiaaGreat
open Go.ChangeShapes Go.WideShapes Go.ChangeAt Go.RowKit
set_option linter.unusedVariables false
set_option linter.unusedSimpArgs false
attribute [local simp] World.cell?_grow World.cell?_alloc_there
attribute [local go_sem] World.cell?_grow World.cell?_alloc_there eqg_blk std_blk eqg_pod std_pod eqg_sel std_sel eqg_prt std_prt eqg_row std_row
attribute [local go_sem ↓] eql_blk eql_sel neq_sel eql_prt eql_pod met_in1 met_in2 met_re1 met_re2 met_has1 met_has2 met_bl1 met_bl2 neq_row
def RefPols (rb : Nat) (v : Value) (R : List RPol) (w w' : World) : Prop :=
  (∃ v', w'.heap[rb]? = some (.cells #[v, v'] 144 (0, 0)) ∧ w'.ownsRow w.heap.size 59 6 v' R.length (R.flatMap encPol)) ∧ w.grownBy w' (some rb)
set_option maxRecDepth 100000 in
set_option maxHeartbeats 2000000 in
theorem refDropPol_some (rb k : Nat) (R : List RPol) (pa qa : Option Addr) (pn pc qc : Nat) (w : World) (ht : w.heap[rb]? = some (.cells #[.slice pa pn pc, .slice qa R.length qc] 144 (0, 0))) (hp : RdSl w.heap.size w 6 80 (eCells encPol) qa R) (hone : ∀ u ∈ R.flatMap encPol, u.oneCell' = true) (hpc : R.length ≤ qc) (hl : R.length ≤ 4) (hk : k < R.length) :
    Calls Tryz.prog 89 #[.pointer (some ⟨rb, 0, none⟩), .int .i64 (k : Int)] w fun e w' => e = .returned (.int .i64 0) ∧ RefPols rb (.slice pa pn pc) (R.take k ++ R.drop (k + 1)) w w' := by
  have HP := hid hp
  have HT := hid ht
  have t0 : w.cell? ⟨rb, 0, none⟩ = some (.slice pa pn pc) := (blk_cell ht 0).trans rfl
  obtain ⟨x, hx⟩ : ∃ x, R[k]? = some x := ⟨_, List.getElem?_eq_getElem hk⟩
  obtain ⟨b, off, hpa, hbl, _⟩ := hp.2 k x hx
  subst hpa
  have t1 : w.cell? ⟨rb, 1, none⟩ = some (.slice (some ⟨b, off, none⟩) R.length qc) := (blk_cell ht 1).trans rfl
  have sf := blk_frozen ht
  have hrb := (Array.getElem?_eq_some_iff.1 ht).1
  have hA : (R.take k).length = k := by rw [List.length_take]; omega
  have hD : (R.drop (k + 1)).length = R.length - (k + 1) := List.length_drop
  have HO1 := hid (show ∀ u ∈ (R.take k).flatMap encPol, u.oneCell' = true from fun u hu => hone u (by obtain ⟨r, hr, hu⟩ := List.mem_flatMap.1 hu; exact List.mem_flatMap.2 ⟨r, List.mem_of_mem_take hr, hu⟩))
  have HO2 := hid (show ∀ u ∈ (R.drop (k + 1)).flatMap encPol, u.oneCell' = true from fun u hu => hone u (by obtain ⟨r, hr, hu⟩ := List.mem_flatMap.1 hu; exact List.mem_flatMap.2 ⟨r, List.mem_of_mem_drop hr, hu⟩))
  clear hp ht hx hone
  obtain ⟨ip0, hip, ipz0, ipz1, ipz2⟩ := info_parts info_pol
  have HA1 := hid (rd_take HP.out k)
  have n1 : ((R.take k).flatMap encPol).length = k * 6 := by rw [oflat_len (k := 6) (fun _ => rfl), hA]
  have n2 : ((R.drop (k + 1)).flatMap encPol).length = (R.length - (k + 1)) * 6 := by rw [oflat_len (k := 6) (fun _ => rfl), hD]
  have hkp : k ≤ qc := by omega
  have hkz : (0 : Int) ≤ k := by omega
  have hk0 : ¬ (k : Int) < 0 := by omega
  have hk1 : ¬ (k : Int) ≥ (R.length : Int) := by omega
  have hk2 : ¬ (R.length : Int) ≤ (k : Int) := by omega
  go_enter Tryz.func89, Tryz.ntmps89
  go_wp2_with (first
    | (at_builtin; refine wpList_append_list w rfl _ _ 26 rfl w.heap.size 59 ip0 _ 6 80 Tryz.underlying26 hip ipz0 ipz1 ipz2 rfl (by decide) (.slice none 0 0) 0 [] rfl (World.ownsRow_nil _ _ _ _) (some ⟨b, off, none⟩) k qc ((R.take k).flatMap encPol) rfl n1 (news_of (k := 6) (fun _ => rfl) (by decide) HA1.out (fun _ _ _ h => h)) HO1.out (by unfold maxLen; omega) (by omega) (Nat.le_refl _) ?_; intro v w6 hown6 hg6; replace hown6 : w6.ownsRow w.heap.size 59 6 v k ((R.take k).flatMap encPol) := (by simpa using hown6); have hb6 : Below w.heap.size w w6 := ⟨hg6.os, hg6.tape, hg6.output, hg6.size, fun b hb => hg6.block b hb (fun e => by cases e)⟩; have HT6 := hid ((hb6.block rb hrb).trans HT.out); have s6 : w6.cell? ⟨rb, 1, none⟩ = some (.slice (some ⟨b, off, none⟩) R.length qc) := (blk_cell HT6.out 1).trans rfl; have sf6 := blk_frozen HT6.out; obtain ⟨va, vc, rfl, _, _⟩ := own_slice hown6; have HO6 := hid hown6; have HB6 := hid hb6; clear hown6 hg6 hb6 t0 t1)
    | (at_builtin; go_must (refine wpList_append_list w6 rfl _ _ 26 rfl w.heap.size 59 ip0 _ 6 80 Tryz.underlying26 hip ipz0 ipz1 ipz2 rfl (by decide) (.slice va k vc) k ((R.take k).flatMap encPol) rfl HO6.out (if qc = k + 1 then some ⟨b, off, none⟩ else some ⟨b, off + (k + 1) * 6, none⟩) (R.length - (k + 1)) (qc - (k + 1)) ((R.drop (k + 1)).flatMap encPol) rfl n2 (news_of (k := 6) (fun _ => rfl) (by decide) (rd_drop_if (cells_to (B := w.heap.size) HP.out HB6.out (Nat.le_refl _)) (k + 1) qc hpc) (fun _ _ _ h => h)) HO2.out (by unfold maxLen; omega) (by omega) HB6.out.size ?_; intro v8 w8 hown8 hg8; have hT8 := (hg8.block rb (by have := HB6.out.size; omega) (fun e => by have := (HO6.out.lt rb e.symm).1; omega)).trans HT6.out; have HT8 := hid hT8; have s8 : w8.cell? ⟨rb, 1, none⟩ = some (.slice (some ⟨b, off, none⟩) R.length qc) := (blk_cell hT8 1).trans rfl; have sf8 := blk_frozen hT8; obtain ⟨va8, vc8, rfl, _, _⟩ := own_slice hown8; have HO8 := hid hown8; have HG8 := hid hg8; clear hown8 hg8 hT8 s6 sf6)))
  all_goals (
    go_ret
    refine ⟨rfl, ⟨_, set_blk HT8.out 1 _, ?_⟩, ?_⟩
    · have h := own_stay (w1 := w8.setCell ⟨rb, 1, none⟩ (.slice va8 (k + (R.length - (k + 1))) vc8)) HO8.out fun g hg => Below.heap_setCell _ _ _ _ (by have := (HO8.out.lt g hg).1; show g ≠ rb; omega)
      rw [List.length_append, hA, hD, List.flatMap_append]
      exact h
    · have hse : Below 0 w8 (w8.setCell ⟨rb, 1, none⟩ (.slice va8 (k + (R.length - (k + 1))) vc8)) := (Below.refl 0 w8).setCell (Nat.zero_le _) _
      have z6 := HB6.out.size
      have z8 := HG8.out.size
      exact ⟨hse.os.trans (HG8.out.os.trans HB6.out.os), hse.tape.trans (HG8.out.tape.trans HB6.out.tape), hse.output.trans (HG8.out.output.trans HB6.out.output), by have := hse.size; omega, fun g hg hne => (Below.heap_setCell _ _ _ _ (fun e => hne (by rw [e]))).trans ((HG8.out.block g (by omega) (fun e => by have := (HO6.out.lt g e.symm).1; omega)).trans (HB6.out.block g hg))⟩)
set_option maxRecDepth 100000 in
set_option maxHeartbeats 2000000 in
theorem refAddPod_many (p : DPod) (rb : Nat) (pa qa : Option Addr) (pn pc qn qc : Nat) (w : World) (ht : w.heap[rb]? = some (.cells #[.slice pa pn pc, .slice qa qn qc] 144 (0, 0))) (hn : 8 ≤ pn) :
    Calls Tryz.prog 84 #[.pointer (some ⟨rb, 0, none⟩), .agg #[.int .i64 p.host, .int .i64 p.ip, .int .i64 p.space, .int .i64 p.labels]] w fun e w' => e = .returned (.int .i64 1) ∧ Below w.heap.size w w' := by
  have t0 : w.cell? ⟨rb, 0, none⟩ = some (.slice pa pn pc) := (blk_cell ht 0).trans rfl
  have t1 : w.cell? ⟨rb, 1, none⟩ = some (.slice qa qn qc) := (blk_cell ht 1).trans rfl
  have hlt := (Array.getElem?_eq_some_iff.1 ht).1
  have z1 : (pn : Int) ≥ 8 := by omega
  have z2 : (8 : Int) ≤ pn := by omega
  clear ht
  go_enter Tryz.func84, Tryz.ntmps84
  go_wp2
  go_ret
  refine ⟨rfl, ?_⟩
  first | exact Below.refl _ _ | exact bel
set_option maxRecDepth 100000 in
set_option maxHeartbeats 2000000 in
theorem refAddPod_bad (p : DPod) (rb : Nat) (pa qa : Option Addr) (pn pc qn qc : Nat) (w : World) (ht : w.heap[rb]? = some (.cells #[.slice pa pn pc, .slice qa qn qc] 144 (0, 0))) (hn : pn < 8) (hp : podOk p = false) :
    Calls Tryz.prog 84 #[.pointer (some ⟨rb, 0, none⟩), .agg #[.int .i64 p.host, .int .i64 p.ip, .int .i64 p.space, .int .i64 p.labels]] w fun e w' => e = .returned (.int .i64 2) ∧ Below w.heap.size w w' := by
  have t0 : w.cell? ⟨rb, 0, none⟩ = some (.slice pa pn pc) := (blk_cell ht 0).trans rfl
  have t1 : w.cell? ⟨rb, 1, none⟩ = some (.slice qa qn qc) := (blk_cell ht 1).trans rfl
  have hlt := (Array.getElem?_eq_some_iff.1 ht).1
  have z1 : ¬ (pn : Int) ≥ 8 := by omega
  have z2 : ¬ (8 : Int) ≤ pn := by omega
  clear ht
  go_enter Tryz.func84, Tryz.ntmps84
  go_wp2_with fail
  refine (refPod_any p _).mono ?_
  rintro e W ⟨rfl, hbW⟩
  rw [hp]
  have hbA : Below w.heap.size w (w.alloc (.cells #[.int .i64 p.host, .int .i64 p.ip, .int .i64 p.space, .int .i64 p.labels] 54)) := bel
  have HB := hid (Ext.trans hbA hbW)
  clear hbW hbA
  go_wp2
  refine wp_region_grow (by kernel_rfl) (by kernel_rfl) ?_
  repeat (go_big_quiet_step (fail))
  refine wpQuiet_nil ?_
  intro w1 hb1
  obtain ⟨hc1, hf1⟩ := bcell hb1
  have hz1 := hb_lt hb1
  go_wp2
  go_ret
  exact ⟨rfl, Ext.trans HB.out hb1⟩
set_option maxRecDepth 100000 in
set_option maxHeartbeats 2000000 in
theorem refAddPod_taken (p : DPod) (rb : Nat) (l : List DPod) (pa qa : Option Addr) (pc qn qc : Nat) (w : World) (ht : w.heap[rb]? = some (.cells #[.slice pa l.length pc, .slice qa qn qc] 144 (0, 0))) (hrd : rdPods w.heap.size w pa l) (hn : l.length < 8) (hp : podOk p = true) (hx : 0 ≤ ixOf l p.ip) :
    Calls Tryz.prog 84 #[.pointer (some ⟨rb, 0, none⟩), .agg #[.int .i64 p.host, .int .i64 p.ip, .int .i64 p.space, .int .i64 p.labels]] w fun e w' => e = .returned (.int .i64 2) ∧ Below w.heap.size w w' := by
  have HT := hid ht
  have HRD := hid hrd
  have t0 : w.cell? ⟨rb, 0, none⟩ = some (.slice pa l.length pc) := (blk_cell ht 0).trans rfl
  have t1 : w.cell? ⟨rb, 1, none⟩ = some (.slice qa qn qc) := (blk_cell ht 1).trans rfl
  have hlt := (Array.getElem?_eq_some_iff.1 ht).1
  have z1 : ¬ (l.length : Int) ≥ 8 := by omega
  have z2 : ¬ (8 : Int) ≤ l.length := by omega
  clear ht hrd
  go_enter Tryz.func84, Tryz.ntmps84
  go_wp2_with fail
  refine (refPod_any p _).mono ?_
  rintro e W ⟨rfl, hbW⟩
  rw [hp]
  have hbA : Below w.heap.size w (w.alloc (.cells #[.int .i64 p.host, .int .i64 p.ip, .int .i64 p.space, .int .i64 p.labels] 54)) := bel
  have c1 : W.cell? ⟨w.heap.size, 1, none⟩ = some (.int .i64 p.ip) := (blk_cell ((hbW.block w.heap.size (by simp)).trans (new_heap _ _)) 1).trans rfl
  have HB := hid (Ext.trans hbA hbW)
  have s0 : W.cell? ⟨rb, 0, none⟩ = some (.slice pa l.length pc) := (blk_cell ((HB.out.block rb hlt).trans HT.out) 0).trans rfl
  have s1 : W.cell? ⟨rb, 1, none⟩ = some (.slice qa qn qc) := (blk_cell ((HB.out.block rb hlt).trans HT.out) 1).trans rfl
  clear hbW hbA t0 t1
  have HAT := hid (fun W' (hb : Below w.heap.size w W') => refAt_any l p.ip pa qa pc qn qc W' (rdPods.to HRD.out hb))
  generalize ixOf l p.ip = ix at *
  have hx2 : ix ≥ 0 := hx
  go_wp2
  refine wp_region_grow (by kernel_rfl) (by kernel_rfl) ?_
  repeat (go_big_quiet_step (first
    | (go_at_call 110; exact Calls.grow_of (HAT.out _ (Ext.trans HB.out (World.below_grow _ _))))))
  refine wpQuiet_nil ?_
  intro w1 hb1
  obtain ⟨hc1, hf1⟩ := bcell hb1
  have hz1 := hb_lt hb1
  go_wp2
  go_ret
  exact ⟨rfl, Ext.trans HB.out hb1⟩
def RefPod (rb B : Nat) (v v' : Value) (l : List DPod) (w w' : World) : Prop :=
  (∃ v1, w'.heap[rb]? = some (.cells #[v1, v'] 144 (0, 0)) ∧ w'.ownsRow B 54 4 v1 l.length (l.flatMap encPod) ∧ (∀ g, v1.ownBlock = some g → v.ownBlock = some g ∨ w.heap.size ≤ g)) ∧ (w'.os = w.os ∧ w'.tape = w.tape ∧ w'.output = w.output) ∧ w.heap.size ≤ w'.heap.size ∧ ∀ b, b < w.heap.size → b ≠ rb → v.ownBlock ≠ some b → w'.heap[b]? = w.heap[b]?
set_option maxRecDepth 100000 in
set_option maxHeartbeats 2000000 in
theorem refAddPod_ok (p : DPod) (rb B : Nat) (l : List DPod) (v : Value) (qa : Option Addr) (qn qc : Nat) (w : World) (ht : w.heap[rb]? = some (.cells #[v, .slice qa qn qc] 144 (0, 0))) (hown : w.ownsRow B 54 4 v l.length (l.flatMap encPod)) (hBs : B ≤ w.heap.size) (hn : l.length < 8) (hp : podOk p = true) (hx : ixOf l p.ip < 0) :
    Calls Tryz.prog 84 #[.pointer (some ⟨rb, 0, none⟩), .agg #[.int .i64 p.host, .int .i64 p.ip, .int .i64 p.space, .int .i64 p.labels]] w fun e w' => e = .returned (.int .i64 0) ∧ RefPod rb B v (.slice qa qn qc) (l ++ [p]) w w' := by
  have HT := hid ht
  have HOW := hid hown
  obtain ⟨pa, pc, hv, hpc, hrd0⟩ := upPods_done (base := B) (w := w) (v := v) (l := l) ⟨hown, fun _ _ => trivial⟩ (by omega)
  subst hv
  have HRD := hid (rdPods.sub (Sub.show _ _) (Nat.le_refl _) hrd0)
  have t0 : w.cell? ⟨rb, 0, none⟩ = some (.slice pa l.length pc) := (blk_cell ht 0).trans rfl
  have t1 : w.cell? ⟨rb, 1, none⟩ = some (.slice qa qn qc) := (blk_cell ht 1).trans rfl
  have hlt := (Array.getElem?_eq_some_iff.1 ht).1
  have z1 : ¬ (l.length : Int) ≥ 8 := by omega
  have z2 : ¬ (8 : Int) ≤ l.length := by omega
  clear ht hrd0 hown
  go_enter Tryz.func84, Tryz.ntmps84
  go_wp2_with fail
  refine (refPod_any p _).mono ?_
  rintro e W ⟨rfl, hbW⟩
  rw [hp]
  have hbA : Below w.heap.size w (w.alloc (.cells #[.int .i64 p.host, .int .i64 p.ip, .int .i64 p.space, .int .i64 p.labels] 54)) := bel
  have HC := hid ((hbW.block w.heap.size (by simp)).trans (new_heap _ _))
  have c1 : W.cell? ⟨w.heap.size, 1, none⟩ = some (.int .i64 p.ip) := (blk_cell HC.out 1).trans rfl
  have HB := hid (Ext.trans hbA hbW)
  have hWs : w.heap.size < W.heap.size := (by have := hbW.size; simp only [World.size_alloc] at this; omega)
  have s0 : W.cell? ⟨rb, 0, none⟩ = some (.slice pa l.length pc) := (blk_cell ((HB.out.block rb hlt).trans HT.out) 0).trans rfl
  have s1 : W.cell? ⟨rb, 1, none⟩ = some (.slice qa qn qc) := (blk_cell ((HB.out.block rb hlt).trans HT.out) 1).trans rfl
  clear hbW hbA t0 t1
  have HAT := hid (fun W' (hb : Below w.heap.size w W') => refAt_any l p.ip pa qa pc qn qc W' (rdPods.to HRD.out hb))
  generalize ixOf l p.ip = ix at *
  have hx2 : ¬ ix ≥ 0 := by omega
  have hx3 : ¬ 0 ≤ ix := by omega
  go_wp2
  refine wp_region_grow (by kernel_rfl) (by kernel_rfl) ?_
  repeat (go_big_quiet_step (first
    | (go_at_call 110; exact Calls.grow_of (HAT.out _ (Ext.trans HB.out (World.below_grow _ _))))))
  refine wpQuiet_nil ?_
  intro w1 hb1
  obtain ⟨hc1, hf1⟩ := bcell hb1
  have hz1 := hb_lt hb1
  have HBX := hid (Ext.trans HB.out hb1)
  have HX := hid ((hb1.block w.heap.size hWs).trans HC.out)
  have HTX := hid ((HBX.out.block rb hlt).trans HT.out)
  have r0 : w1.cell? ⟨rb, 0, none⟩ = some (.slice pa l.length pc) := (blk_cell HTX.out 0).trans rfl
  have rf := blk_frozen HTX.out
  have x0 : w1.cell? ⟨w.heap.size, 0, none⟩ = some (.int .i64 p.host) := (blk_cell HX.out 0).trans rfl
  have x1 : w1.cell? ⟨w.heap.size, 1, none⟩ = some (.int .i64 p.ip) := (blk_cell HX.out 1).trans rfl
  have x2 : w1.cell? ⟨w.heap.size, 2, none⟩ = some (.int .i64 p.space) := (blk_cell HX.out 2).trans rfl
  have x3 : w1.cell? ⟨w.heap.size, 3, none⟩ = some (.int .i64 p.labels) := (blk_cell HX.out 3).trans rfl
  obtain ⟨ip0, hip, ipz0, ipz1, ipz2⟩ := info_parts info_pod
  go_wp2
  have d0 : w1.drew.cell? ⟨w.heap.size, 0, none⟩ = some (.int .i64 p.host) := (blk_cell HX.out 0).trans rfl
  have d1 : w1.drew.cell? ⟨w.heap.size, 1, none⟩ = some (.int .i64 p.ip) := (blk_cell HX.out 1).trans rfl
  have d2 : w1.drew.cell? ⟨w.heap.size, 2, none⟩ = some (.int .i64 p.space) := (blk_cell HX.out 2).trans rfl
  have d3 : w1.drew.cell? ⟨w.heap.size, 3, none⟩ = some (.int .i64 p.labels) := (blk_cell HX.out 3).trans rfl
  have h1s : w.heap.size < w1.heap.size := by have := hb1.size; omega
  have hsV : ((w1.alloc (.cells #[.int .i64 p.host, .int .i64 p.ip, .int .i64 p.space, .int .i64 p.labels] 54)).drew).heap.size = w1.heap.size + 1 := (show (w1.alloc (.cells #[.int .i64 p.host, .int .i64 p.ip, .int .i64 p.space, .int .i64 p.labels] 54)).heap.size = _ from World.size_alloc _ _)
  have hbV : Below w.heap.size w ((w1.alloc (.cells #[.int .i64 p.host, .int .i64 p.ip, .int .i64 p.space, .int .i64 p.labels] 54)).drew) := Ext.trans HBX.out (((Below.refl _ w1).alloc (Nat.le_refl _) _).drew)
  have HBV := hid hbV
  have HNW := hid (show ∀ (j : Nat) (u : Value), (encPod p)[j]? = some u → ((w1.alloc (.cells #[.int .i64 p.host, .int .i64 p.ip, .int .i64 p.space, .int .i64 p.labels] 54)).drew).cell? ((⟨w1.heap.size, 0, none⟩ : Addr).add j) = some u from (show ∀ (j : Nat) (u : Value), (encPod p)[j]? = some u → (w1.alloc (.cells #[.int .i64 p.host, .int .i64 p.ip, .int .i64 p.space, .int .i64 p.labels] 54)).cell? ((⟨w1.heap.size, 0, none⟩ : Addr).add j) = some u from cell_new_list w1 (encPod p) _))
  have HOLV := hid (show ((w1.alloc (.cells #[.int .i64 p.host, .int .i64 p.ip, .int .i64 p.space, .int .i64 p.labels] 54)).drew).ownsRow B 54 4 (.slice pa l.length pc) l.length (l.flatMap encPod) from own_to HOW.out hbV)
  have HVT := hid (show ((w1.alloc (.cells #[.int .i64 p.host, .int .i64 p.ip, .int .i64 p.space, .int .i64 p.labels] 54)).drew).heap[rb]? = some (.cells #[.slice pa l.length pc, .slice qa qn qc] 144 (0, 0)) from (hbV.block rb hlt).trans HT.out)
  clear hbV
  have hdw : (Value.slice pa l.length pc).ownBlock ≠ some rb := fun e => by
    obtain ⟨_, ⟨h, _⟩ | ⟨g, cap, cur, h, _, hg, _⟩⟩ := HOW.out
    · rw [h] at e; cases e
    · rw [h] at e
      have e2 : g = rb := by simpa [Value.ownBlock] using e
      rw [e2, HT.out] at hg
      cases hg
  go_region_law (refine step_append_at ((w1.alloc (.cells #[.int .i64 p.host, .int .i64 p.ip, .int .i64 p.space, .int .i64 p.labels] 54)).drew) (by rfl) (.tmp 32) (.tmp 34) 25 (by rfl) B 54 ip0 _ 4 32 Tryz.underlying25 hip ipz0 ipz1 ipz2 rfl (by decide) _ _ _ (by rfl) HOLV.out ⟨w1.heap.size, 0, none⟩ 1 1 (encPod p) (by first | rfl | simp [Act.eval, Act.put]) rfl HNW.out (by intro u hu; simp only [encPod, List.mem_cons, List.not_mem_nil, or_false] at hu; rcases hu with rfl | rfl | rfl | rfl <;> rfl) (by unfold maxLen; omega) (by omega) (by omega) ?_; intro v8 w8 hown8 hg8 hat8; have HG8 := hid hg8; have HAT8 := hid hat8; have HO8 := hid hown8; have h8t : w8.heap[rb]? = some (.cells #[.slice pa l.length pc, .slice qa qn qc] 144 (0, 0)) := (hg8.block rb (by omega) (fun e => hdw e.symm)).trans HVT.out; have q8 : w8.cell? ⟨rb, 0, none⟩ = some (.slice pa l.length pc) := (blk_cell h8t 0).trans rfl; have qf8 := blk_frozen h8t; have H8T := hid h8t; obtain ⟨ea, ec, hv8, _, _⟩ := own_slice hown8; subst hv8; clear hown8 hg8 hat8 h8t)
  all_goals (
    go_wp2
    go_ret
    have g8 := hid (show ((w1.alloc (.cells #[.int .i64 p.host, .int .i64 p.ip, .int .i64 p.space, .int .i64 p.labels] 54)).drew).grownBy w8 (Value.slice pa l.length pc).ownBlock from HG8.out)
    have at8 := hid (show (Value.slice ea (l.length + 1) ec).ownBlock = (Value.slice pa l.length pc).ownBlock ∨ (Value.slice ea (l.length + 1) ec).ownBlock = some ((w1.alloc (.cells #[.int .i64 p.host, .int .i64 p.ip, .int .i64 p.space, .int .i64 p.labels] 54)).drew).heap.size from HAT8.out)
    have hs8 := g8.out.size
    have hse : Below 0 w8 (w8.setCell ⟨rb, 0, none⟩ (.slice ea (l.length + 1) ec)) := (Below.refl 0 w8).setCell (Nat.zero_le _) _
    have hsz : (w8.setCell ⟨rb, 0, none⟩ (.slice ea (l.length + 1) ec)).heap.size = w8.heap.size := World.size_setCell _ _ _
    have hne8 : ∀ g, (Value.slice ea (l.length + 1) ec).ownBlock = some g → g ≠ rb := fun g hg e => by
      rcases at8.out with h | h
      · exact hdw (h.symm.trans (hg.trans (by rw [e])))
      · rw [h, hsV] at hg; cases hg; omega
    refine ⟨rfl, ⟨.slice ea (l.length + 1) ec, set_blk H8T.out 0 _, ?_, fun g hg => ?_⟩, ⟨hse.os.trans (g8.out.os.trans HBV.out.os), hse.tape.trans (g8.out.tape.trans HBV.out.tape), hse.output.trans (g8.out.output.trans HBV.out.output)⟩, by omega, fun b hb h1 h2 => (Below.heap_setCell _ _ _ _ h1).trans ((g8.out.block b (by omega) (fun e => h2 e.symm)).trans (HBV.out.block b hb))⟩
    · have h := own_stay (w1 := w8.setCell ⟨rb, 0, none⟩ (.slice ea (l.length + 1) ec)) HO8.out fun g hg => Below.heap_setCell _ _ _ _ (hne8 g hg)
      rw [List.length_append, List.flatMap_append]
      simpa using h
    · rcases at8.out with h | h
      · exact .inl (h ▸ hg)
      · rw [h, hsV] at hg; cases hg; exact .inr (by omega))
set_option maxRecDepth 100000 in
set_option maxHeartbeats 2000000 in
theorem refAddPol_many (p : DPol) (oa ia : Option Addr) (oc ic : Nat) (rb : Nat) (pa qa : Option Addr) (pn pc qn qc : Nat) (w : World) (ht : w.heap[rb]? = some (.cells #[.slice pa pn pc, .slice qa qn qc] 144 (0, 0))) (hn : 4 ≤ qn) :
    Calls Tryz.prog 88 #[.pointer (some ⟨rb, 0, none⟩), .agg #[.int .i64 p.space, .int .i64 p.need, .int .i64 p.ban, .int .i64 p.ways, .slice oa p.outs.length oc, .slice ia p.ins.length ic]] w fun e w' => e = .returned (.int .i64 1) ∧ Below w.heap.size w w' := by
  have t1 : w.cell? ⟨rb, 1, none⟩ = some (.slice qa qn qc) := (blk_cell ht 1).trans rfl
  have z1 : (qn : Int) ≥ 4 := by omega
  have z2 : (4 : Int) ≤ qn := by omega
  clear ht
  go_enter Tryz.func88, Tryz.ntmps88
  go_wp2
  go_ret
  refine ⟨rfl, ?_⟩
  first | exact Below.refl _ _ | exact bel
set_option maxRecDepth 100000 in
set_option maxHeartbeats 2000000 in
theorem refAddPol_bad (p : DPol) (oa ia : Option Addr) (oc ic : Nat) (rb : Nat) (pa qa : Option Addr) (pn pc qn qc : Nat) (w : World) (ht : w.heap[rb]? = some (.cells #[.slice pa pn pc, .slice qa qn qc] 144 (0, 0))) (ho : rdRules w.heap.size w oa p.outs) (hi : rdRules w.heap.size w ia p.ins) (hn : qn < 4) (hp : polOk p = false) :
    Calls Tryz.prog 88 #[.pointer (some ⟨rb, 0, none⟩), .agg #[.int .i64 p.space, .int .i64 p.need, .int .i64 p.ban, .int .i64 p.ways, .slice oa p.outs.length oc, .slice ia p.ins.length ic]] w fun e w' => e = .returned (.int .i64 3) ∧ Below w.heap.size w w' := by
  have t1 : w.cell? ⟨rb, 1, none⟩ = some (.slice qa qn qc) := (blk_cell ht 1).trans rfl
  have z1 : ¬ (qn : Int) ≥ 4 := by omega
  have z2 : ¬ (4 : Int) ≤ qn := by omega
  have hbA : Below w.heap.size w (w.alloc (.cells #[.int .i64 p.space, .int .i64 p.need, .int .i64 p.ban, .int .i64 p.ways, .slice oa p.outs.length oc, .slice ia p.ins.length ic] 59)) := bel
  have HPA := hid (refPolicy_any p oa ia oc ic (w.alloc (.cells #[.int .i64 p.space, .int .i64 p.need, .int .i64 p.ban, .int .i64 p.ways, .slice oa p.outs.length oc, .slice ia p.ins.length ic] 59)) (rdRules.to ho hbA) (rdRules.to hi hbA))
  clear ht ho hi
  go_enter Tryz.func88, Tryz.ntmps88
  go_wp2_with fail
  refine HPA.out.mono ?_
  rintro e W ⟨rfl, hbW⟩
  rw [hp]
  have HB := hid (Ext.trans hbA hbW)
  clear hbW hbA
  go_wp2
  go_ret
  exact ⟨rfl, HB.out⟩
end Go.Proofs.YtmkjlhplgcifiaaGreat
