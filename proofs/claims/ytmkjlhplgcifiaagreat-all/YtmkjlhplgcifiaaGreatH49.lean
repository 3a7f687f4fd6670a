/-
  palisade: DropPolicy.
-/
import Derived.Test.YtmkjlhplgcifiaaGreatH48
import Derived.Test.YtmkjlhplgcifiaaGreatH47
namespace Go.Proofs.YtmkjlhplgcifiaaGreat
open Go.ChangeShapes Go.WideShapes Go.ChangeAt Go.RowKit
set_option linter.unusedVariables false
set_option linter.unusedSimpArgs false
attribute [local simp] World.cell?_grow World.cell?_alloc_there
attribute [local go_sem] World.cell?_grow World.cell?_alloc_there eqg_blk std_blk eqg_pod std_pod eqg_sel std_sel eqg_prt std_prt eqg_row std_row
attribute [local go_sem ↓] eql_blk eql_sel neq_sel eql_prt eql_pod met_in1 met_in2 met_re1 met_re2 met_has1 met_has2 met_bl1 met_bl2 neq_row
theorem rd_take {α : Type} {B sz bytes : Nat} {w : World} {E : Nat → World → Nat → Nat → α → Prop} {a : Option Addr} {l : List α} (h : RdSl B w sz bytes E a l) (n : Nat) : RdSl B w sz bytes E a (l.take n) :=
  ⟨Nat.le_trans (Nat.mul_le_mul_right _ (by rw [List.length_take]; omega)) h.1, fun i x hx => h.2 i x (by rw [List.getElem?_take] at hx; split at hx; exact hx; cases hx)⟩
theorem rd_drop {α : Type} {B sz bytes b off : Nat} {w : World} {E : Nat → World → Nat → Nat → α → Prop} {l : List α} (h : RdSl B w sz bytes E (some ⟨b, off, none⟩) l) (n : Nat) : RdSl B w sz bytes E (some ⟨b, off + n * sz, none⟩) (l.drop n) :=
  ⟨Nat.le_trans (Nat.mul_le_mul_right _ (by rw [List.length_drop]; omega)) h.1, fun i x hx => by
    rw [List.getElem?_drop] at hx
    obtain ⟨b', off', e, hb, he⟩ := h.2 _ x hx
    cases e
    exact ⟨b, off + n * sz, rfl, hb, by rw [show off + n * sz + i * sz = off + (n + i) * sz by rw [Nat.add_mul]; omega]; exact he⟩⟩
theorem own_lowerY {w : World} {base base' : Nat} {e : TypeId} {size : Nat} {v : Value} {n : Nat} {xs : List Value} (h : w.ownsRow base e size v n xs) (hb : base' ≤ base) : w.ownsRow base' e size v n xs := by
  obtain ⟨h1, h2 | ⟨g, cap, cur, e, h3, h4⟩⟩ := h
  · exact ⟨h1, .inl h2⟩
  · exact ⟨h1, .inr ⟨g, cap, cur, e, Nat.le_trans hb h3, h4⟩⟩
theorem concat_drop (R D : List RPol) (k b off qc : Nat) (da : Option Addr) (dc sb : Nat) (w W : World) (hk : k < R.length) (hR : R.length ≤ 4) (hD : D = R.take k ++ R.drop (k + 1)) (hrd : RdSl w.heap.size w 6 80 (eCells encPol) (some ⟨b, off, none⟩) R) (hok : ∀ r ∈ R, r.ok w.heap.size w) (hbw : Below w.heap.size w W)
    (s0 : W.cell? ⟨sb, 0, none⟩ = some (.slice (some ⟨b, off, none⟩) k qc)) (s1 : W.cell? ⟨sb, 1, none⟩ = some (.slice da (R.length - (k + 1)) dc)) (hrd2 : RdSl w.heap.size w 6 80 (eCells encPol) da (R.drop (k + 1))) :
    Calls Tryz.prog 47 #[.slice (some ⟨sb, 0, none⟩) 2 2] W fun e w' => ∃ va vc, e = .returned (.slice va D.length vc) ∧ D.length ≤ vc ∧ w'.ownsRow W.heap.size 59 6 (.slice va D.length vc) D.length (D.flatMap encPol) ∧ Below W.heap.size W w' := by
  have l1 : (R.take k).length = k := by rw [List.length_take]; omega
  have l2 : (R.drop (k + 1)).length = R.length - (k + 1) := List.length_drop
  have hc := concatPol (R.take k) (R.drop (k + 1)) (some ⟨b, off, none⟩) da qc dc sb W (cells_to (rd_take hrd k) hbw hbw.size) (cells_to hrd2 hbw hbw.size) (by omega) (by omega) (encPols_ones (B := w.heap.size) (w := w) fun r hr => hok r (List.mem_of_mem_take hr)) (encPols_ones (B := w.heap.size) (w := w) fun r hr => hok r (List.mem_of_mem_drop hr)) (by rw [l1]; exact s0) (by rw [l2]; exact s1)
  rw [← hD] at hc
  refine hc.mono ?_
  rintro e w' ⟨v, rfl, ho, hb'⟩
  obtain ⟨va, vc, hv, hvc, _⟩ := own_slice ho
  subst hv
  exact ⟨va, vc, rfl, hvc, ho, hb'⟩
set_option maxRecDepth 100000 in
set_option maxHeartbeats 4000000 in
theorem dropPol_none (i : Int) (tb : Nat) (u2 : Value) (c : DClu) (pa qa : Option Addr) (pc qc : Nat) (w : World) (ht : w.heap[tb]? = some (.cells #[.slice pa c.pods.length pc, .slice qa c.pols.length qc, u2] 94 (0, 0))) (hp : rdPods w.heap.size w pa c.pods) (hq : rdPols w.heap.size w qa c.pols) (hpc : c.pods.length ≤ pc) (hqc : c.pols.length ≤ qc) (hr : (right c).1 = 0) (hn : ¬ (0 ≤ i ∧ i < c.pols.length)) :
    Calls Tryz.prog 44 #[.pointer (some ⟨tb, 0, none⟩), .int .i64 i] w fun e w' => e = .returned (.int .i64 6) ∧ Below w.heap.size w w' := by
  obtain ⟨l1, l2⟩ := right_lens hr
  have HW := hid (show ∀ W, Calls Tryz.prog 63 #[.int .i64 i, .int .i64 0, .int .i64 ((c.pols.length : Int) - 1)] W fun e w' => e = .returned (.bool false) ∧ w' = W from fun W => by
    have := within_any i 0 ((c.pols.length : Int) - 1) W
    rw [show btw i 0 ((c.pols.length : Int) - 1) = false by simp [btw]; omega] at this
    exact this)
  have t0 : w.cell? ⟨tb, 0, none⟩ = some (.slice pa c.pods.length pc) := (blk_cell ht 0).trans rfl
  have t1 : w.cell? ⟨tb, 1, none⟩ = some (.slice qa c.pols.length qc) := (blk_cell ht 1).trans rfl
  clear hp hq ht hr hn
  go_enter Tryz.func44, Tryz.ntmps44
  go_wp2_with fail
  have HB := hid (show Below w.heap.size w (w.alloc (.cells #[.slice pa c.pods.length pc, .slice qa c.pols.length qc] 28)) from bel)
  refine (HW.out _).mono ?_
  rintro e w1 ⟨rfl, rfl⟩
  go_wp2
  go_ret
  exact ⟨rfl, HB.out⟩
set_option maxRecDepth 100000 in
set_option maxHeartbeats 4000000 in
theorem dropPol_some (k : Nat) (tb : Nat) (u2 : Value) (c : DClu) (pa qa : Option Addr) (pc qc : Nat) (w : World) (ht : w.heap[tb]? = some (.cells #[.slice pa c.pods.length pc, .slice qa c.pols.length qc, u2] 94 (0, 0))) (hp : rdPods w.heap.size w pa c.pods) (hq : rdPols w.heap.size w qa c.pols) (hpc : c.pods.length ≤ pc) (hqc : c.pols.length ≤ qc) (hr : (right c).1 = 0) (hk : k < c.pols.length) :
    Calls Tryz.prog 44 #[.pointer (some ⟨tb, 0, none⟩), .int .i64 (k : Int)] w fun e w' => e = .returned (.int .i64 0) ∧ Chg tb ⟨c.pods, c.pols.take k ++ c.pols.drop (k + 1)⟩ w w' := by
  obtain ⟨l1, l2⟩ := right_lens hr
  have HRR := hid (right_dropPol hr k)
  obtain ⟨R, hR, hrd, hok⟩ := pols_cells hq
  have hRl : R.length = c.pols.length := by rw [← hR, List.length_map]
  have HW := hid (show ∀ W, Calls Tryz.prog 63 #[.int .i64 (k : Int), .int .i64 0, .int .i64 ((R.length : Int) - 1)] W fun e w' => e = .returned (.bool true) ∧ w' = W from fun W => by
    have := within_any k 0 ((R.length : Int) - 1) W
    rw [show btw k 0 ((R.length : Int) - 1) = true by simp [btw]; omega] at this
    exact this)
  obtain ⟨b, off, rfl⟩ : ∃ b off, qa = some ⟨b, off, none⟩ := by
    obtain ⟨b, off, e, _⟩ := hrd.2 k R[k] (List.getElem?_eq_getElem (by omega))
    exact ⟨b, off, e⟩
  have HRD := hid hrd
  have HOK := hid hok
  have HP := hid hp
  have HT := hid ht
  have htl : tb < w.heap.size := (Array.getElem?_eq_some_iff.1 ht).1
  have t0 : w.cell? ⟨tb, 0, none⟩ = some (.slice pa c.pods.length pc) := (blk_cell ht 0).trans rfl
  have t1 : w.cell? ⟨tb, 1, none⟩ = some (.slice (some ⟨b, off, none⟩) R.length qc) := by rw [hRl]; exact (blk_cell ht 1).trans rfl
  have hR4 : R.length ≤ 4 := by omega
  have hRq : R.length ≤ qc := by omega
  have hkR : k < R.length := by omega
  obtain ⟨D, hD⟩ : ∃ D, D = R.take k ++ R.drop (k + 1) := ⟨_, rfl⟩
  have hDM : D.map (·.d) = c.pols.take k ++ c.pols.drop (k + 1) := by rw [hD, List.map_append, List.map_take, List.map_drop, hR]
  have HDO := hid (show ∀ r ∈ D, r.ok w.heap.size w from fun r hr => by
    rw [hD] at hr
    rcases List.mem_append.1 hr with hr | hr
    · exact HOK.out r (List.mem_of_mem_take hr)
    · exact HOK.out r (List.mem_of_mem_drop hr))
  have hDl : D.length ≤ 5 := by rw [hD]; simp; omega
  obtain ⟨C, hC⟩ : ∃ C : DClu, C = ⟨c.pods, c.pols.take k ++ c.pols.drop (k + 1)⟩ := ⟨_, rfl⟩
  rw [← hC] at HRR ⊢
  have E4 := hid (show C.pods = c.pods by rw [hC])
  have E5 := hid (show C.pols = D.map (·.d) by rw [hC, hDM])
  have HD := hid hD
  clear hp hq ht hr hrd hok hRl hD hDM hC hR hk
  go_enter Tryz.func44, Tryz.ntmps44
  go_wp2_with fail
  generalize hX : w.alloc (.cells #[.slice pa c.pods.length pc, .slice (some ⟨b, off, none⟩) R.length qc] 28) = W
  have HSW := hid (show W.heap.size = w.heap.size + 1 by rw [← hX]; simp)
  have HBW := hid (show Below w.heap.size w W from by rw [← hX]; exact bel)
  have KB := hid (show W.heap[w.heap.size]? = some (.cells #[.slice pa c.pods.length pc, .slice (some ⟨b, off, none⟩) R.length qc] 28 (0, 0)) from by rw [← hX]; exact new_heap _ _)
  clear hX t0 t1
  refine (HW.out _).mono ?_
  rintro e w1 ⟨rfl, rfl⟩
  have m0 := blk_cell KB.out 0
  have m1 := blk_cell KB.out 1
  have mf := blk_frozen KB.out
  have HSW2 := hid (show w.heap.size < w1.heap.size by have := HSW.out; omega)
  have HCC := hid (fun (W : World) (da : Option Addr) (dc : Nat) (hb : Below w1.heap.size w1 W) => concat_drop R D k b off qc da dc w1.heap.size w W hkR (by omega) HD.out HRD.out HOK.out (Ext.trans HBW.out hb))
  have z1 : (k : Int) ≤ (qc : Int) := by omega
  have z2 : (k : Int) + 1 ≤ (R.length : Int) := by omega
  have z3 : (R.length : Int) ≤ (qc : Int) := by omega
  have z4 : 0 ≤ (k : Int) := by omega
  have z5 : 0 ≤ (k : Int) + 1 := by omega
  have z6 : (k : Int) < (R.length : Int) := by omega
  have z7 : IntKind.i64.wrap ((k : Int) + 1) = (k : Int) + 1 := by rw [IntKind.wrap_i64]; omega
  have z8 : ((k : Int) + 1).toNat = k + 1 := by omega
  go_wp2_with fail
  by_cases hqk : qc = k + 1
  · have HQK := hid hqk
    have hd0 : R.drop (k + 1) = [] := List.drop_eq_nil_of_le (by omega)
    have HD0 := hid hd0
    clear hd0 hqk
    refine wp_region_held_tail (S := (fun w' => w'.cell? ⟨w.heap.size, 1, none⟩ = some (.slice (some ⟨b, off, none⟩) R.length qc))) 11 (by kernel_rfl) (by kernel_rfl) ?_
    simp only [takes_11, drops_11]
    have hS0 : (fun w' => w'.cell? ⟨w.heap.size, 1, none⟩ = some (.slice (some ⟨b, off, none⟩) R.length qc)) w1.drew := m1
    refine htake_0 (.pointer (some ⟨w.heap.size, 1, none⟩)) (by kernel_rfl) (by kernel_rfl) (by kernel_rfl) rfl (fun _ _ _ h => h) (fun w' hSw => by (have s0 := hSw; go_simp)) hS0 ?_
    try simp only [Act.put, List.setIfInBounds_toArray, List.set_cons_zero, List.set_cons_succ]
    refine htake_1 (.slice (some ⟨b, off, none⟩) R.length qc) (by kernel_rfl) (by kernel_rfl) (by kernel_rfl) rfl (fun _ _ _ h => h) (fun w' hSw => by (have s0 := hSw; go_simp)) hS0 ?_
    try simp only [Act.put, List.setIfInBounds_toArray, List.set_cons_zero, List.set_cons_succ]
    refine htake_2 (.int .i64 (k : Int)) (by kernel_rfl) (by kernel_rfl) (by kernel_rfl) rfl (fun _ _ _ h => h) (fun w' hSw => by (have s0 := hSw; go_simp)) hS0 ?_
    try simp only [Act.put, List.setIfInBounds_toArray, List.set_cons_zero, List.set_cons_succ]
    refine htake_3 (.slice (some ⟨b, off, none⟩) k qc) (by kernel_rfl) (by kernel_rfl) (by kernel_rfl) rfl (fun _ _ _ h => h) (fun w' hSw => by (have s0 := hSw; go_simp)) hS0 ?_
    try simp only [Act.put, List.setIfInBounds_toArray, List.set_cons_zero, List.set_cons_succ]
    refine htake_4 (.pointer (some ⟨w.heap.size, 1, none⟩)) (by kernel_rfl) (by kernel_rfl) (by kernel_rfl) rfl (fun _ _ _ h => h) (fun w' hSw => by (have s0 := hSw; go_simp)) hS0 ?_
    try simp only [Act.put, List.setIfInBounds_toArray, List.set_cons_zero, List.set_cons_succ]
    refine htake_5 (.slice (some ⟨b, off, none⟩) R.length qc) (by kernel_rfl) (by kernel_rfl) (by kernel_rfl) rfl (fun _ _ _ h => h) (fun w' hSw => by (have s0 := hSw; go_simp)) hS0 ?_
    try simp only [Act.put, List.setIfInBounds_toArray, List.set_cons_zero, List.set_cons_succ]
    refine htake_6 (.int .i64 (k : Int)) (by kernel_rfl) (by kernel_rfl) (by kernel_rfl) rfl (fun _ _ _ h => h) (fun w' hSw => by (have s0 := hSw; go_simp)) hS0 ?_
    try simp only [Act.put, List.setIfInBounds_toArray, List.set_cons_zero, List.set_cons_succ]
    refine htake_7 (.int .i64 ((k : Int) + 1)) (by kernel_rfl) (by kernel_rfl) (by kernel_rfl) rfl (fun _ _ _ h => h) (fun w' hSw => by (have s0 := hSw; go_simp)) hS0 ?_
    try simp only [Act.put, List.setIfInBounds_toArray, List.set_cons_zero, List.set_cons_succ]
    refine htake_8 (.slice (some ⟨b, off, none⟩) (R.length - (k + 1)) (qc - (k + 1))) (by kernel_rfl) (by kernel_rfl) (by kernel_rfl) rfl (fun _ _ _ h => h) (fun w' hSw => by (have s0 := hSw; have eq := HQK.out; go_simp)) hS0 ?_
    try simp only [Act.put, List.setIfInBounds_toArray, List.set_cons_zero, List.set_cons_succ]
    refine hone_9 (by kernel_rfl) rfl (fun K hK => ?_)
    go_simp
    have HBA := hid (show Below w1.heap.size w1 (w1.alloc (.cells #[.slice (some ⟨b, off, none⟩) k qc, .slice (some ⟨b, off, none⟩) (R.length - (k + 1)) (qc - (k + 1))] 26)).drew from ((Below.refl _ w1).alloc (Nat.le_refl _) _).drew)
    refine hK _ _ (cell_past (w := w1) m1) ?_
    try simp only [Act.put, List.setIfInBounds_toArray, List.set_cons_zero, List.set_cons_succ]
    clear hK
    refine hone_10 (by kernel_rfl) rfl (fun K hK => ?_)
    go_simp
    go_at_call 47
    refine (concat_drop R D k b off qc (some ⟨b, off, none⟩) (qc - (k + 1)) w1.heap.size w (w1.alloc (.cells #[.slice (some ⟨b, off, none⟩) k qc, .slice (some ⟨b, off, none⟩) (R.length - (k + 1)) (qc - (k + 1))] 26)).drew hkR (by omega) HD.out HRD.out HOK.out (Ext.trans HBW.out HBA.out) ((blk_cell (new_heap w1 (.cells #[.slice (some ⟨b, off, none⟩) k qc, .slice (some ⟨b, off, none⟩) (R.length - (k + 1)) (qc - (k + 1))] 26)) 0).trans rfl) ((blk_cell (new_heap w1 (.cells #[.slice (some ⟨b, off, none⟩) k qc, .slice (some ⟨b, off, none⟩) (R.length - (k + 1)) (qc - (k + 1))] 26)) 1).trans rfl) (by rw [HD0.out]; exact rd_nil _ _ _ _ _ _)).mono ?_
    rintro e w3 ⟨va, vc, rfl, hvc, ho, hb3⟩
    have HO3 := hid ho
    have HVC := hid hvc
    have HB3 := hid (HBA.out.trans (hb3.mono (by show _ ≤ (World.alloc w1 _).heap.size; rw [World.size_alloc]; omega)))
    have kb3 := (HB3.out.block w.heap.size HSW2.out).trans KB.out
    have KB3 := hid kb3
    have n1 : w3.cell? ⟨w.heap.size, 1, none⟩ = some (.slice (some ⟨b, off, none⟩) R.length qc) := (blk_cell kb3 1).trans rfl
    have n0 : w3.cell? ⟨w.heap.size, 0, none⟩ = some (.slice pa c.pods.length pc) := (blk_cell kb3 0).trans rfl
    have nf := blk_frozen kb3
    clear ho hvc hb3 kb3
    refine hK _ _ n1 ?_
    refine wpAnyH_done (by kernel_rfl) ?_ _
    show wpList _ _ _ _ _ _
    try simp only [Act.put, List.setIfInBounds_toArray, List.set_cons_zero, List.set_cons_succ]
    clear hK hS0 m0 m1 mf
    go_wp2_with fail
    have HX := hid (set_blk KB3.out 1 (.slice va D.length vc))
    have HOX := hid (row_set (own_lowerY HO3.out (show w1.heap.size ≤ _ by show _ ≤ (World.alloc w1 _).heap.size; rw [World.size_alloc]; omega)) ⟨w.heap.size, 1, none⟩ (.slice va D.length vc) HSW2.out)
    have HBX := hid (show Below w.heap.size w (w3.setCell ⟨w.heap.size, 1, none⟩ (.slice va D.length vc)) from (Ext.trans HBW.out HB3.out).setCell (Nat.le_refl _) _)
    generalize w3.setCell ⟨w.heap.size, 1, none⟩ (.slice va D.length vc) = X at HX HOX HBX ⊢
    have hbX := HBX.out
    obtain ⟨va', vc', hv', _, hrX⟩ := own_pols HOX.out (by omega) hbX HDO.out
    injection hv' with e1 e2 e3
    subst e1
    have q1 := (hbX.block tb htl).trans HT.out
    refine (follow_len C tb _ _ u2 pa va pc vc c.pods.length D.length X (by rw [E4.out]) (by rw [E5.out, List.length_map]) q1 (by rw [E4.out]; exact rdPods.to HP.out hbX) (by rw [E5.out]; exact hrX) (by rw [E4.out]; exact hpc)).mono ?_
    rw [HRR.out]
    rintro e w2 ⟨rfl, hc⟩
    have HC := hid (Chg.pre hbX hc)
    clear hc hbX hrX q1 n0 n1 nf
    go_wp2
    go_ret
    exact ⟨rfl, HC.out⟩
  · have hqk2 : ¬ qc = k + 1 := hqk
    refine wp_region_held_tail (S := (fun w' => w'.cell? ⟨w.heap.size, 1, none⟩ = some (.slice (some ⟨b, off, none⟩) R.length qc))) 11 (by kernel_rfl) (by kernel_rfl) ?_
    simp only [takes_11, drops_11]
    have hS0 : (fun w' => w'.cell? ⟨w.heap.size, 1, none⟩ = some (.slice (some ⟨b, off, none⟩) R.length qc)) w1.drew := m1
    refine htake_0 (.pointer (some ⟨w.heap.size, 1, none⟩)) (by kernel_rfl) (by kernel_rfl) (by kernel_rfl) rfl (fun _ _ _ h => h) (fun w' hSw => by (have s0 := hSw; go_simp)) hS0 ?_
    try simp only [Act.put, List.setIfInBounds_toArray, List.set_cons_zero, List.set_cons_succ]
    refine htake_1 (.slice (some ⟨b, off, none⟩) R.length qc) (by kernel_rfl) (by kernel_rfl) (by kernel_rfl) rfl (fun _ _ _ h => h) (fun w' hSw => by (have s0 := hSw; go_simp)) hS0 ?_
    try simp only [Act.put, List.setIfInBounds_toArray, List.set_cons_zero, List.set_cons_succ]
    refine htake_2 (.int .i64 (k : Int)) (by kernel_rfl) (by kernel_rfl) (by kernel_rfl) rfl (fun _ _ _ h => h) (fun w' hSw => by (have s0 := hSw; go_simp)) hS0 ?_
    try simp only [Act.put, List.setIfInBounds_toArray, List.set_cons_zero, List.set_cons_succ]
    refine htake_3 (.slice (some ⟨b, off, none⟩) k qc) (by kernel_rfl) (by kernel_rfl) (by kernel_rfl) rfl (fun _ _ _ h => h) (fun w' hSw => by (have s0 := hSw; go_simp)) hS0 ?_
    try simp only [Act.put, List.setIfInBounds_toArray, List.set_cons_zero, List.set_cons_succ]
    refine htake_4 (.pointer (some ⟨w.heap.size, 1, none⟩)) (by kernel_rfl) (by kernel_rfl) (by kernel_rfl) rfl (fun _ _ _ h => h) (fun w' hSw => by (have s0 := hSw; go_simp)) hS0 ?_
    try simp only [Act.put, List.setIfInBounds_toArray, List.set_cons_zero, List.set_cons_succ]
    refine htake_5 (.slice (some ⟨b, off, none⟩) R.length qc) (by kernel_rfl) (by kernel_rfl) (by kernel_rfl) rfl (fun _ _ _ h => h) (fun w' hSw => by (have s0 := hSw; go_simp)) hS0 ?_
    try simp only [Act.put, List.setIfInBounds_toArray, List.set_cons_zero, List.set_cons_succ]
    refine htake_6 (.int .i64 (k : Int)) (by kernel_rfl) (by kernel_rfl) (by kernel_rfl) rfl (fun _ _ _ h => h) (fun w' hSw => by (have s0 := hSw; go_simp)) hS0 ?_
    try simp only [Act.put, List.setIfInBounds_toArray, List.set_cons_zero, List.set_cons_succ]
    refine htake_7 (.int .i64 ((k : Int) + 1)) (by kernel_rfl) (by kernel_rfl) (by kernel_rfl) rfl (fun _ _ _ h => h) (fun w' hSw => by (have s0 := hSw; go_simp)) hS0 ?_
    try simp only [Act.put, List.setIfInBounds_toArray, List.set_cons_zero, List.set_cons_succ]
    refine htake_8 (.slice (some ⟨b, off + (k + 1) * 6, none⟩) (R.length - (k + 1)) (qc - (k + 1))) (by kernel_rfl) (by kernel_rfl) (by kernel_rfl) rfl (fun _ _ _ h => h) (fun w' hSw => by (have s0 := hSw; go_simp)) hS0 ?_
    try simp only [Act.put, List.setIfInBounds_toArray, List.set_cons_zero, List.set_cons_succ]
    refine hone_9 (by kernel_rfl) rfl (fun K hK => ?_)
    go_simp
    have HBA := hid (show Below w1.heap.size w1 (w1.alloc (.cells #[.slice (some ⟨b, off, none⟩) k qc, .slice (some ⟨b, off + (k + 1) * 6, none⟩) (R.length - (k + 1)) (qc - (k + 1))] 26)).drew from ((Below.refl _ w1).alloc (Nat.le_refl _) _).drew)
    refine hK _ _ (cell_past (w := w1) m1) ?_
    try simp only [Act.put, List.setIfInBounds_toArray, List.set_cons_zero, List.set_cons_succ]
    clear hK
    refine hone_10 (by kernel_rfl) rfl (fun K hK => ?_)
    go_simp
    go_at_call 47
    refine (concat_drop R D k b off qc (some ⟨b, off + (k + 1) * 6, none⟩) (qc - (k + 1)) w1.heap.size w (w1.alloc (.cells #[.slice (some ⟨b, off, none⟩) k qc, .slice (some ⟨b, off + (k + 1) * 6, none⟩) (R.length - (k + 1)) (qc - (k + 1))] 26)).drew hkR (by omega) HD.out HRD.out HOK.out (Ext.trans HBW.out HBA.out) ((blk_cell (new_heap w1 (.cells #[.slice (some ⟨b, off, none⟩) k qc, .slice (some ⟨b, off + (k + 1) * 6, none⟩) (R.length - (k + 1)) (qc - (k + 1))] 26)) 0).trans rfl) ((blk_cell (new_heap w1 (.cells #[.slice (some ⟨b, off, none⟩) k qc, .slice (some ⟨b, off + (k + 1) * 6, none⟩) (R.length - (k + 1)) (qc - (k + 1))] 26)) 1).trans rfl) (rd_drop HRD.out (k + 1))).mono ?_
    rintro e w3 ⟨va, vc, rfl, hvc, ho, hb3⟩
    have HO3 := hid ho
    have HVC := hid hvc
    have HB3 := hid (HBA.out.trans (hb3.mono (by show _ ≤ (World.alloc w1 _).heap.size; rw [World.size_alloc]; omega)))
    have kb3 := (HB3.out.block w.heap.size HSW2.out).trans KB.out
    have KB3 := hid kb3
    have n1 : w3.cell? ⟨w.heap.size, 1, none⟩ = some (.slice (some ⟨b, off, none⟩) R.length qc) := (blk_cell kb3 1).trans rfl
    have n0 : w3.cell? ⟨w.heap.size, 0, none⟩ = some (.slice pa c.pods.length pc) := (blk_cell kb3 0).trans rfl
    have nf := blk_frozen kb3
    clear ho hvc hb3 kb3
    refine hK _ _ n1 ?_
    refine wpAnyH_done (by kernel_rfl) ?_ _
    show wpList _ _ _ _ _ _
    try simp only [Act.put, List.setIfInBounds_toArray, List.set_cons_zero, List.set_cons_succ]
    clear hK hS0 m0 m1 mf
    go_wp2_with fail
    have HX := hid (set_blk KB3.out 1 (.slice va D.length vc))
    have HOX := hid (row_set (own_lowerY HO3.out (show w1.heap.size ≤ _ by show _ ≤ (World.alloc w1 _).heap.size; rw [World.size_alloc]; omega)) ⟨w.heap.size, 1, none⟩ (.slice va D.length vc) HSW2.out)
    have HBX := hid (show Below w.heap.size w (w3.setCell ⟨w.heap.size, 1, none⟩ (.slice va D.length vc)) from (Ext.trans HBW.out HB3.out).setCell (Nat.le_refl _) _)
    generalize w3.setCell ⟨w.heap.size, 1, none⟩ (.slice va D.length vc) = X at HX HOX HBX ⊢
    have hbX := HBX.out
    obtain ⟨va', vc', hv', _, hrX⟩ := own_pols HOX.out (by omega) hbX HDO.out
    injection hv' with e1 e2 e3
    subst e1
    have q1 := (hbX.block tb htl).trans HT.out
    refine (follow_len C tb _ _ u2 pa va pc vc c.pods.length D.length X (by rw [E4.out]) (by rw [E5.out, List.length_map]) q1 (by rw [E4.out]; exact rdPods.to HP.out hbX) (by rw [E5.out]; exact hrX) (by rw [E4.out]; exact hpc)).mono ?_
    rw [HRR.out]
    rintro e w2 ⟨rfl, hc⟩
    have HC := hid (Chg.pre hbX hc)
    clear hc hbX hrX q1 n0 n1 nf
    go_wp2
    go_ret
    exact ⟨rfl, HC.out⟩
theorem rd_drop_if {α : Type} {B sz bytes b off : Nat} {w : World} {E : Nat → World → Nat → Nat → α → Prop} {l : List α} (h : RdSl B w sz bytes E (some ⟨b, off, none⟩) l) (n pc : Nat) (hl : l.length ≤ pc) : RdSl B w sz bytes E (if pc = n then some ⟨b, off, none⟩ else some ⟨b, off + n * sz, none⟩) (l.drop n) := by
  split
  · rename_i e
    have h0 : l.drop n = [] := List.drop_eq_nil_of_le (by omega)
    rw [h0]
    exact ⟨by simp, fun i x hx => by simp at hx⟩
  · exact rd_drop h n
def RefPods (rb : Nat) (v' : Value) (l : List DPod) (w w' : World) : Prop :=
  (∃ v, w'.heap[rb]? = some (.cells #[v, v'] 144 (0, 0)) ∧ w'.ownsRow w.heap.size 54 4 v l.length (l.flatMap encPod)) ∧ w.grownBy w' (some rb)
set_option maxRecDepth 100000 in
set_option maxHeartbeats 2000000 in
theorem refDropPod_some (ip : Int) (rb k : Nat) (l : List DPod) (pa qa : Option Addr) (pc qn qc : Nat) (w : World) (ht : w.heap[rb]? = some (.cells #[.slice pa l.length pc, .slice qa qn qc] 144 (0, 0))) (hp : rdPods w.heap.size w pa l) (hpc : l.length ≤ pc) (hl : l.length ≤ 8) (hn : ixOf l ip = k) (hk : k < l.length) :
    Calls Tryz.prog 85 #[.pointer (some ⟨rb, 0, none⟩), .int .i64 ip] w fun e w' => e = .returned (.int .i64 0) ∧ RefPods rb (.slice qa qn qc) (l.take k ++ l.drop (k + 1)) w w' := by
  have hat := refAt_any l ip pa qa pc qn qc w hp
  rw [hn] at hat
  have HAT := hid hat
  have HP := hid hp
  have HT := hid ht
  have t0 : w.cell? ⟨rb, 0, none⟩ = some (.slice pa l.length pc) := (blk_cell ht 0).trans rfl
  have t1 : w.cell? ⟨rb, 1, none⟩ = some (.slice qa qn qc) := (blk_cell ht 1).trans rfl
  obtain ⟨x, hx⟩ : ∃ x, l[k]? = some x := ⟨_, List.getElem?_eq_getElem hk⟩
  obtain ⟨b, off, hpa, hbl, _⟩ := hp.2 k x hx
  subst hpa
  have hA : (l.take k).length = k := by rw [List.length_take]; omega
  have hD : (l.drop (k + 1)).length = l.length - (k + 1) := List.length_drop
  clear hp ht hat hn hx
  obtain ⟨ip0, hip, ipz0, ipz1, ipz2⟩ := info_parts info_pod
  go_enter Tryz.func85, Tryz.ntmps85
  go_wp2_with fail
  refine HAT.out.mono ?_
  rintro e w1 ⟨rfl, hb1⟩
  have HB := hid hb1
  have HT1 := hid ((hb1.block rb (Array.getElem?_eq_some_iff.1 HT.out).1).trans HT.out)
  have s0 : w1.cell? ⟨rb, 0, none⟩ = some (.slice (some ⟨b, off, none⟩) l.length pc) := (blk_cell HT1.out 0).trans rfl
  have s1 : w1.cell? ⟨rb, 1, none⟩ = some (.slice qa qn qc) := (blk_cell HT1.out 1).trans rfl
  have sf := blk_frozen HT1.out
  clear hb1 t0 t1
  have hk0 : ¬ (k : Int) < 0 := by omega
  have HA1 := hid (rd_take (rdPods.to HP.out HB.out) k)
  have n1 : ((l.take k).flatMap encPod).length = k * 4 := by rw [oflat_len (k := 4) (fun _ => rfl), hA]
  have HA0 := hid (rdPods.to HP.out HB.out)
  have n2 : ((l.drop (k + 1)).flatMap encPod).length = (l.length - (k + 1)) * 4 := by rw [oflat_len (k := 4) (fun _ => rfl), hD]
  have hkp : k ≤ pc := by omega
  have hkz : (0 : Int) ≤ k := by omega
  have hrb1 := (Array.getElem?_eq_some_iff.1 HT1.out).1
  go_wp2_with (first
    | (at_builtin; refine wpList_append_list w1 rfl _ _ 25 rfl w1.heap.size 54 ip0 _ 4 32 Tryz.underlying25 hip ipz0 ipz1 ipz2 rfl (by decide) (.slice none 0 0) 0 [] rfl (World.ownsRow_nil _ _ _ _) (some ⟨b, off, none⟩) k pc ((l.take k).flatMap encPod) rfl n1 (news_of (k := 4) (fun _ => rfl) (by decide) HA1.out (fun _ _ _ => ePod_cells)) (encPods_one _) (by unfold maxLen; omega) (by omega) (Nat.le_refl _) ?_; intro v w6 hown6 hg6; replace hown6 : w6.ownsRow w1.heap.size 54 4 v k ((l.take k).flatMap encPod) := (by simpa using hown6); have hb6 : Below w1.heap.size w1 w6 := ⟨hg6.os, hg6.tape, hg6.output, hg6.size, fun b hb => hg6.block b hb (fun e => by cases e)⟩; have HT6 := hid ((hb6.block rb hrb1).trans HT1.out); have s6 : w6.cell? ⟨rb, 0, none⟩ = some (.slice (some ⟨b, off, none⟩) l.length pc) := (blk_cell HT6.out 0).trans rfl; have sf6 := blk_frozen HT6.out; obtain ⟨va, vc, rfl, _, _⟩ := own_slice hown6; have HO6 := hid hown6; have HB6 := hid hb6; have HG6 := hid hg6; clear hown6 hg6 hb6 s0)
    | (at_builtin; go_must (refine wpList_append_list w6 rfl _ _ 25 rfl w1.heap.size 54 ip0 _ 4 32 Tryz.underlying25 hip ipz0 ipz1 ipz2 rfl (by decide) (.slice va k vc) k ((l.take k).flatMap encPod) rfl HO6.out (if pc = k + 1 then some ⟨b, off, none⟩ else some ⟨b, off + (k + 1) * 4, none⟩) (l.length - (k + 1)) (pc - (k + 1)) ((l.drop (k + 1)).flatMap encPod) rfl n2 (news_of (k := 4) (fun _ => rfl) (by decide) (rd_drop_if (rdPods.to HA0.out HB6.out) (k + 1) pc hpc) (fun _ _ _ => ePod_cells)) (encPods_one _) (by unfold maxLen; omega) (by omega) HB6.out.size ?_; intro v8 w8 hown8 hg8; have hT8 := (hg8.block rb (by have := HB6.out.size; omega) (fun e => by have := (HO6.out.lt rb e.symm).1; omega)).trans HT6.out; have HT8 := hid hT8; have s8 : w8.cell? ⟨rb, 0, none⟩ = some (.slice (some ⟨b, off, none⟩) l.length pc) := (blk_cell hT8 0).trans rfl; have sf8 := blk_frozen hT8; obtain ⟨va8, vc8, rfl, _, _⟩ := own_slice hown8; have HO8 := hid hown8; have HG8 := hid hg8; clear hown8 hg8 hT8 s6 sf6)))
  all_goals (
    go_ret
    refine ⟨rfl, ⟨_, set_blk HT8.out 0 _, ?_⟩, ?_⟩
    · have h := own_stay (w1 := w8.setCell ⟨rb, 0, none⟩ (.slice va8 (k + (l.length - (k + 1))) vc8)) HO8.out fun g hg => Below.heap_setCell _ _ _ _ (by have := (HO8.out.lt g hg).1; show g ≠ rb; omega)
      rw [List.length_append, hA, hD, List.flatMap_append]
      exact own_lower h HB.out.size
    · have hse : Below 0 w8 (w8.setCell ⟨rb, 0, none⟩ (.slice va8 (k + (l.length - (k + 1))) vc8)) := (Below.refl 0 w8).setCell (Nat.zero_le _) _
      have z1 := HB.out.size
      have z6 := HB6.out.size
      have z8 := HG8.out.size
      exact ⟨hse.os.trans (HG8.out.os.trans (HB6.out.os.trans HB.out.os)), hse.tape.trans (HG8.out.tape.trans (HB6.out.tape.trans HB.out.tape)), hse.output.trans (HG8.out.output.trans (HB6.out.output.trans HB.out.output)), by have := hse.size; omega, fun g hg hne => (Below.heap_setCell _ _ _ _ (fun e => hne (by rw [e]))).trans ((HG8.out.block g (by omega) (fun e => by have := (HO6.out.lt g e.symm).1; omega)).trans ((HB6.out.block g (by omega)).trans (HB.out.block g hg)))⟩)
end Go.Proofs.YtmkjlhplgcifiaaGreat
