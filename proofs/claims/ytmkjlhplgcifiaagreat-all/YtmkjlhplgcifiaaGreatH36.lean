/-
  A cluster lent.
-/
import Derived.Test.YtmkjlhplgcifiaaGreatH35
namespace Go.Proofs.YtmkjlhplgcifiaaGreat
open Go.ChangeShapes Go.WideShapes Go.ChangeAt Go.RowKit
set_option linter.unusedVariables false
set_option linter.unusedSimpArgs false
attribute [local simp] World.cell?_grow World.cell?_alloc_there
attribute [local go_sem] World.cell?_grow World.cell?_alloc_there eqg_blk std_blk eqg_pod std_pod eqg_sel std_sel eqg_prt std_prt
attribute [local go_sem ↓] eql_blk eql_sel neq_sel eql_prt eql_pod met_in1 met_in2 met_re1 met_re2
theorem alloc_at (w : World) (o : Obj) (n : Nat) (h : w.heap.size = n) : (w.alloc o).heap[n]? = some o := by subst h; exact alloc_heap w o
def lnPods (lo hi : Nat) (w : World) (a : Option Addr) (v : Value) (l : List DPod) : Prop :=
  (a = none ∧ v = .slice none 0 0 ∧ l = []) ∨ ∃ a' g, a = some a' ∧ lo ≤ g ∧ g < hi ∧ v = .slice (some ⟨g, 0, none⟩) l.length (l.length + 1) ∧ w.heap[g]? = some (.cells (l.flatMap oCells ++ ([.int .i64 (-7), .int .i64 0, .int .i64 0, .int .i64 0] : List Value)).toArray 54 (0, 0))
theorem lnPods.heap {lo hi : Nat} {w w' : World} {a : Option Addr} {v : Value} {l : List DPod} (h : lnPods lo hi w a v l) (hb : ∀ j, lo ≤ j → j < hi → w'.heap[j]? = w.heap[j]?) : lnPods lo hi w' a v l := by
  rcases h with h | ⟨a', g, h1, h2, h3, h4, h5⟩
  · exact Or.inl h
  · exact Or.inr ⟨a', g, h1, h2, h3, h4, by rw [hb g h2 h3]; exact h5⟩
theorem lnPods_to {lo hi : Nat} {w w' : World} {a : Option Addr} {v : Value} {l : List DPod} (h : lnPods lo hi w a v l) (hb : ∀ j, lo + 3 ≤ j → j < hi → v = .slice (some ⟨j, 0, none⟩) l.length (l.length + 1) → w'.heap[j]? = w.heap[j]?) (h3 : v = .slice none 0 0 ∨ ∃ n c, v = .slice (some ⟨lo + 3, 0, none⟩) n c) : lnPods lo hi w' a v l := by
  rcases h with h | ⟨a', g, h1, h2, h4, rfl, h5⟩
  · exact Or.inl h
  · rcases h3 with h3 | ⟨n, c, h3⟩
    · cases h3
    · cases h3
      exact Or.inr ⟨a', _, h1, h2, h4, rfl, by rw [hb _ (Nat.le_refl _) h4 rfl]; exact h5⟩
def eLnPol (w0 : World) (a : Option Addr) (l : List DPol) (g : Nat) (w : World) (lo hi i : Nat) : Prop :=
  ∀ x, l[i]? = some x → ∃ m s t, lo ≤ m ∧ m ≤ hi ∧ w.cell? ⟨g, i * 6, none⟩ = some (.int .i64 x.space) ∧ w.cell? ⟨g, i * 6 + 1, none⟩ = some (.int .i64 x.need) ∧ w.cell? ⟨g, i * 6 + 2, none⟩ = some (.int .i64 x.ban) ∧ w.cell? ⟨g, i * 6 + 3, none⟩ = some (.int .i64 x.ways) ∧
    w.cell? ⟨g, i * 6 + 4, none⟩ = some s ∧ w.cell? ⟨g, i * 6 + 5, none⟩ = some t ∧ lnRules lo m w0 w (subA w0 a (i * 6 + 4)) s x.outs ∧ lnRules m hi w0 w (subA w0 a (i * 6 + 5)) t x.ins
theorem eLnPol.stab (w0 : World) (a : Option Addr) (l : List DPol) (g : Nat) : Stab 6 g (eLnPol w0 a l g) := by
  intro w w' lo hi i hc hb h x hx
  obtain ⟨m, s, t, h1, h2, c0, c1, c2, c3, h3, h4, h5, h6⟩ := h x hx
  refine ⟨m, s, t, h1, h2, ?_, ?_, ?_, ?_, ?_, ?_, h5.heap fun j h7 h8 => hb j h7 (by omega), h6.heap fun j h7 h8 => hb j (by omega) h8⟩
  · rw [hc _ (by omega) (by omega)]; exact c0
  · rw [hc _ (by omega) (by omega)]; exact c1
  · rw [hc _ (by omega) (by omega)]; exact c2
  · rw [hc _ (by omega) (by omega)]; exact c3
  · rw [hc _ (by omega) (by omega)]; exact h3
  · rw [hc _ (by omega) (by omega)]; exact h4
def lnPols (lo hi : Nat) (w0 w : World) (a : Option Addr) (v : Value) (l : List DPol) : Prop :=
  (a = none ∧ v = .slice none 0 0 ∧ l = []) ∨ ∃ a' g f, a = some a' ∧ lo ≤ g ∧ g < hi ∧ v = .slice (some ⟨g, 0, none⟩) l.length (l.length + 1) ∧ LnL 6 l.length (eLnPol w0 a l g) w g f l.length ∧ f l.length ≤ hi ∧ w.cell? ⟨g, l.length * 6, none⟩ = some (.int .i64 (-7))
theorem lnPols.heap {lo hi : Nat} {w0 w w' : World} {a : Option Addr} {v : Value} {l : List DPol} (h : lnPols lo hi w0 w a v l) (hb : ∀ j, lo ≤ j → j < hi → w'.heap[j]? = w.heap[j]?) : lnPols lo hi w0 w' a v l := by
  rcases h with h | ⟨a', g, f, h1, h2, h3, h4, h5, h6, h7⟩
  · exact Or.inl h
  · have hg := hb g h2 h3
    exact Or.inr ⟨a', g, f, h1, h2, h3, h4, LnL.to (eLnPol.stab _ _ _ _) h5 hg (fun j h8 h9 => hb j (by omega) (by omega)), h6, by rw [cell_heap hg]; exact h7⟩
theorem und_pod : Tryz.prog.underlying 25 = some (.slice 54) := Tryz.underlying25
theorem siz_pod : (Tryz.prog.info? 54).map (·.size) = some 4 := by kernel_rfl
theorem und_pol : Tryz.prog.underlying 26 = some (.slice 59) := Tryz.underlying26
theorem inf_pod : ∃ i z, Tryz.prog.info? 54 = some i ∧ i.zero = some z ∧ i.size = 4 ∧ i.bytes = 32 := by
  have h0 : (Tryz.prog.info? 54).isSome = true := by kernel_rfl
  have h1 : ((Tryz.prog.info? 54).bind (·.zero)).isSome = true := by kernel_rfl
  have h2 : (Tryz.prog.info? 54).map (·.bytes) = some 32 := by kernel_rfl
  have h3 := siz_pod
  obtain ⟨i, hi⟩ := Option.isSome_iff_exists.1 h0
  obtain ⟨z, hz⟩ := Option.isSome_iff_exists.1 h1
  rw [hi] at h2 h3 hz
  exact ⟨i, z, hi, by simpa using hz, by simpa using h3, by simpa using h2⟩
theorem inf_pol : ∃ i z, Tryz.prog.info? 59 = some i ∧ i.zero = some z ∧ i.size = 6 ∧ i.bytes = 80 := by
  have h0 : (Tryz.prog.info? 59).isSome = true := by kernel_rfl
  have h1 : ((Tryz.prog.info? 59).bind (·.zero)).isSome = true := by kernel_rfl
  have h2 : (Tryz.prog.info? 59).map (·.bytes) = some 80 := by kernel_rfl
  have h3 : (Tryz.prog.info? 59).map (·.size) = some 6 := by kernel_rfl
  obtain ⟨i, hi⟩ := Option.isSome_iff_exists.1 h0
  obtain ⟨z, hz⟩ := Option.isSome_iff_exists.1 h1
  rw [hi] at h2 h3 hz
  exact ⟨i, z, hi, by simpa using hz, by simpa using h3, by simpa using h2⟩
theorem make_pod (n : Nat) (h : n * 32 ≤ 140737488351232) : ∃ Z : Array Value, Z.size = (n + 1) * 4 ∧
    ∀ w : World, (Instr.makeSlice 25 (.int .i64 ((n : Int) + 1)) (.int .i64 ((n : Int) + 1))).run Tryz.prog w = .ok (.slice (some ⟨w.heap.size, 0, none⟩) (n + 1) (n + 1)) (w.alloc (.cells Z 54)) := by
  obtain ⟨i, z, h1, h2, h3, h4⟩ := inf_pod
  have e : ((n : Int) + 1).toNat = n + 1 := by omega
  refine ⟨madeCells z.cells ((n + 1) * 4), size_madeCells _ _, fun w => ?_⟩
  have := run_make (P := Tryz.prog) w 25 54 i _ und_pod h1 h2 .i64 .i64 ((n : Int) + 1) ((n : Int) + 1) (by omega) (by omega) (by rw [h4]; omega) (by omega)
  rwa [h3, e] at this
theorem make_pol (n : Nat) (h : n * 80 ≤ 140737488351232) : ∃ Z : Array Value, Z.size = (n + 1) * 6 ∧
    ∀ w : World, (Instr.makeSlice 26 (.int .i64 ((n : Int) + 1)) (.int .i64 ((n : Int) + 1))).run Tryz.prog w = .ok (.slice (some ⟨w.heap.size, 0, none⟩) (n + 1) (n + 1)) (w.alloc (.cells Z 59)) := by
  obtain ⟨i, z, h1, h2, h3, h4⟩ := inf_pol
  have e : ((n : Int) + 1).toNat = n + 1 := by omega
  refine ⟨madeCells z.cells ((n + 1) * 6), size_madeCells _ _, fun w => ?_⟩
  have := run_make (P := Tryz.prog) w 26 59 i _ und_pol h1 h2 .i64 .i64 ((n : Int) + 1) ((n : Int) + 1) (by omega) (by omega) (by rw [h4]; omega) (by omega)
  rwa [h3, e] at this
theorem lens_pod (x : DPod) : (oCells x).length = 4 := rfl
theorem src_pod (B : Nat) (w : World) (a : Addr) (l : List DPod) (h : rdPods B w (some a) l) : ∀ j v, (l.flatMap oCells)[j]? = some v → w.cell? (a.add j) = some v := by
  intro j v hj
  obtain ⟨x, h1, h2⟩ := flat_get oCells 4 lens_pod (by omega) l j v hj
  obtain ⟨b, off, he, hb, h3⟩ := h.2 _ x h1
  cases he
  have ha : (⟨b, off, none⟩ : Addr).add j = ⟨b, off + j / 4 * 4 + j % 4, none⟩ := by
    have : j / 4 * 4 + j % 4 = j := by omega
    unfold Addr.add
    split
    · rename_i h0; subst h0; simp
    · simp only [Addr.mk.injEq, true_and, and_true]; omega
  rw [ha]
  unfold ePod at h3
  obtain ⟨g0, g1, g2, g3⟩ := h3
  have hlt : j % 4 < 4 := Nat.mod_lt _ (by omega)
  generalize j % 4 = r at h2 hlt
  match r, hlt with
  | 0, _ => simp [oCells] at h2; subst h2; exact g0
  | 1, _ => simp [oCells] at h2; subst h2; exact g1
  | 2, _ => simp [oCells] at h2; subst h2; exact g2
  | 3, _ => simp [oCells] at h2; subst h2; exact g3
set_option maxRecDepth 100000 in
set_option maxHeartbeats 8000000 in
theorem lent_nn (c : DClu) (pc qc : Nat) (w : World) (hp0 : c.pods = []) (hq0 : c.pols = []) :
    Calls Tryz.prog 73 #[.agg #[.slice none 0 pc, .slice none 0 qc]] w
      fun e w' => ∃ m sa sn sc ta tn tc, e = .returned (.agg #[.slice sa sn sc, .slice ta tn tc]) ∧ w.heap.size ≤ m ∧ m ≤ w'.heap.size ∧ lnPods w.heap.size m w' none (.slice sa sn sc) c.pods ∧ lnPols m w'.heap.size w w' none (.slice ta tn tc) c.pols ∧ Below w.heap.size w w' := by
  have hqp : ∀ w, (binOp .neq 25 (.slice none 0 pc) (.slice none 0 0)).run Tryz.prog w = .ok (.bool false) w := fun w => run_neq_slice_nil_any w 25 54 _ _ _ _ _ und_pod
  have hqq : ∀ w, (binOp .neq 26 (.slice none 0 qc) (.slice none 0 0)).run Tryz.prog w = .ok (.bool false) w := fun w => run_neq_slice_nil_any w 26 59 _ _ _ _ _ und_pol
  go_enter Tryz.func73, Tryz.ntmps73
  go_wp2
  refine bodyPost_ret (v := .agg #[.slice none 0 0, .slice none 0 0]) (by simp [results, Tryz.results73, go_sem]) rfl ⟨w.heap.size, none, 0, 0, none, 0, 0, rfl, Nat.le_refl _, by simp; omega, Or.inl ⟨rfl, rfl, hp0⟩, Or.inl ⟨rfl, rfl, hq0⟩, bel⟩
set_option maxRecDepth 100000 in
set_option maxHeartbeats 8000000 in
theorem lent_pn (c : DClu) (pa : Addr) (pc qc : Nat) (w : World) (hp : rdPods w.heap.size w (some pa) c.pods) (hq0 : c.pols = []) :
    Calls Tryz.prog 73 #[.agg #[.slice (some pa) c.pods.length pc, .slice none 0 qc]] w
      fun e w' => ∃ m sa sn sc ta tn tc, e = .returned (.agg #[.slice sa sn sc, .slice ta tn tc]) ∧ w.heap.size ≤ m ∧ m ≤ w'.heap.size ∧ lnPods w.heap.size m w' (some pa) (.slice sa sn sc) c.pods ∧ lnPols m w'.heap.size w w' none (.slice ta tn tc) c.pols ∧ Below w.heap.size w w' := by
  have hqp : ∀ w, (binOp .neq 25 (.slice (some pa) c.pods.length pc) (.slice none 0 0)).run Tryz.prog w = .ok (.bool true) w := fun w => run_neq_slice_nil_any w 25 54 _ _ _ _ _ und_pod
  have hqq : ∀ w, (binOp .neq 26 (.slice none 0 qc) (.slice none 0 0)).run Tryz.prog w = .ok (.bool false) w := fun w => run_neq_slice_nil_any w 26 59 _ _ _ _ _ und_pol
  have hlp := hp.1
  obtain ⟨Z, hZ, hmk⟩ := make_pod c.pods.length hlp
  have hfl := flat_len oCells 4 lens_pod c.pods
  have hcp := copy_big Tryz.prog ((((w.alloc (Obj.cells #[.slice (some pa) c.pods.length pc, .slice none 0 qc] 28)).alloc (Obj.cells #[.slice none 0 0, .slice none 0 0] 28)).alloc (Obj.cells #[.slice none 0 0, .slice none 0 0] 28)).alloc (.cells Z 54)) 25 25 3 54 (((w.alloc (Obj.cells #[.slice (some pa) c.pods.length pc, .slice none 0 qc] 28)).alloc (Obj.cells #[.slice none 0 0, .slice none 0 0] 28)).alloc (Obj.cells #[.slice none 0 0, .slice none 0 0] 28)).heap.size (c.pods.length + 1) (c.pods.length + 1) pa c.pods.length pc 4 Z 54 (c.pods.flatMap oCells) und_pod siz_pod (alloc_heap _ _) hfl (by omega)
    (fun j v hj => cell_past (cell_past (cell_past (cell_past (src_pod _ w pa c.pods hp j v hj))))) (by rw [hfl, hZ, Nat.succ_mul]; omega) (fun v hv => by
      obtain ⟨x, _, hx⟩ := List.mem_flatMap.1 hv
      simp [oCells] at hx
      rcases hx with rfl | rfl | rfl | rfl <;> rfl)
  rw [setRow_alloc] at hcp
  obtain ⟨C, hC⟩ : ∃ C, C = (c.pods.flatMap oCells ++ Z.toList.drop (c.pods.flatMap oCells).length).toArray := ⟨_, rfl⟩
  rw [← hC] at hcp
  simp only [World.size_alloc] at hcp
  have HCg := hid (show ∀ r, r < 4 → C[c.pods.length * 4 + r]? = some (Z.getD (c.pods.length * 4 + r) default) from fun r hr => by
    rw [hC, List.getElem?_toArray, flat_end oCells 4 lens_pod, List.getElem?_drop, hfl]
    have : c.pods.length * 4 + r < Z.size := by rw [hZ, Nat.succ_mul]; omega
    simp [Array.getD, this])
  have HD := hid (show ((((C.setIfInBounds (c.pods.length * 4) (.int .i64 (-7))).setIfInBounds (c.pods.length * 4 + 1) (.int .i64 0)).setIfInBounds (c.pods.length * 4 + 2) (.int .i64 0)).setIfInBounds (c.pods.length * 4 + 3) (.int .i64 0)) = (c.pods.flatMap oCells ++ ([.int .i64 (-7), .int .i64 0, .int .i64 0, .int .i64 0] : List Value)).toArray by
    rw [hC]
    have hdl : (Z.toList.drop (c.pods.flatMap oCells).length).length = 4 := by rw [List.length_drop, hfl]; simp [hZ, Nat.succ_mul]
    generalize Z.toList.drop (c.pods.flatMap oCells).length = t at hdl
    match t, hdl with
    | [t0, t1, t2, t3], _ =>
      apply Array.ext'
      simp only [Array.toList_setIfInBounds]
      rw [← hfl]
      simp [List.set_append])
  clear hC hZ hp
  have q0 : C[c.pods.length * 4]? = some (Z.getD (c.pods.length * 4 + 0) default) := HCg.out 0 (by omega)
  have q1 : C[c.pods.length * 4 + 1]? = some (Z.getD (c.pods.length * 4 + 1) default) := HCg.out 1 (by omega)
  have q2 : C[c.pods.length * 4 + 2]? = some (Z.getD (c.pods.length * 4 + 2) default) := HCg.out 2 (by omega)
  have q3 : C[c.pods.length * 4 + 3]? = some (Z.getD (c.pods.length * 4 + 3) default) := HCg.out 3 (by omega)
  go_enter Tryz.func73, Tryz.ntmps73
  go_wp2
  rw [HD.out]
  refine bodyPost_ret (v := .agg #[.slice (some ⟨w.heap.size + 1 + 1 + 1, 0, none⟩) c.pods.length (c.pods.length + 1), .slice none 0 0]) (by simp [results, Tryz.results73, go_sem]) rfl ⟨w.heap.size + 4, _, _, _, none, 0, 0, rfl, by omega, by simp, Or.inr ⟨pa, w.heap.size + 1 + 1 + 1, rfl, by omega, by omega, rfl, alloc_at _ _ _ (by simp)⟩, Or.inl ⟨rfl, rfl, hq0⟩, bel⟩
set_option maxRecDepth 100000 in
set_option maxHeartbeats 8000000 in
theorem lent_nq (c : DClu) (qa : Addr) (pc qc : Nat) (w : World) (hp0 : c.pods = []) (hq : rdPols w.heap.size w (some qa) c.pols) :
    Calls Tryz.prog 73 #[.agg #[.slice none 0 pc, .slice (some qa) c.pols.length qc]] w
      fun e w' => ∃ m sa sn sc ta tn tc, e = .returned (.agg #[.slice sa sn sc, .slice ta tn tc]) ∧ w.heap.size ≤ m ∧ m ≤ w'.heap.size ∧ lnPods w.heap.size m w' none (.slice sa sn sc) c.pods ∧ lnPols m w'.heap.size w w' (some qa) (.slice ta tn tc) c.pols ∧ Below w.heap.size w w' := by
  have hqp : ∀ w, (binOp .neq 25 (.slice none 0 pc) (.slice none 0 0)).run Tryz.prog w = .ok (.bool false) w := fun w => run_neq_slice_nil_any w 25 54 _ _ _ _ _ und_pod
  have hqq : ∀ w, (binOp .neq 26 (.slice (some qa) c.pols.length qc) (.slice none 0 0)).run Tryz.prog w = .ok (.bool true) w := fun w => run_neq_slice_nil_any w 26 59 _ _ _ _ _ und_pol
  have hlq := hq.1
  have HQ := hid hq
  clear hq
  obtain ⟨Y, hY, hmy⟩ := make_pol c.pols.length hlq
  go_enter Tryz.func73, Tryz.ntmps73
  go_wp2
  have HOY := hid (fun V : World => own_of (alloc_heap V (.cells Y 59)) hY)
  clear hY
  generalize hV : ((w.alloc (Obj.cells #[.slice none 0 pc, .slice (some qa) c.pols.length qc] 28)).alloc (Obj.cells #[.slice none 0 0, .slice none 0 0] 28)).alloc (Obj.cells #[.slice none 0 0, .slice none 0 0] 28) = V
  have hsV : V.heap.size = w.heap.size + 1 + 1 + 1 := by rw [← hV]; simp
  have v1 : V.cell? ⟨w.heap.size, 1, none⟩ = some (.slice (some qa) c.pols.length qc) := by rw [← hV]; simp [go_sem]
  have h0 : V.cell? ⟨w.heap.size + 1 + 1, 0, none⟩ = some (.slice none 0 0) := by rw [← hV]; simp [go_sem]
  have h1 : V.cell? ⟨w.heap.size + 1 + 1, 1, none⟩ = some (.slice none 0 0) := by rw [← hV]; simp [go_sem]
  have r0 : V.cell? ⟨w.heap.size + 1, 0, none⟩ = some (.slice none 0 0) := by rw [← hV]; simp [go_sem]
  have r1 : V.cell? ⟨w.heap.size + 1, 1, none⟩ = some (.slice none 0 0) := by rw [← hV]; simp [go_sem]
  have HF1 := hid (show ∀ o, V.frozen? ⟨w.heap.size + 1, o, none⟩ = false from fun o => by
    rw [← hV, World.frozen?_of_block (w := (w.alloc (Obj.cells #[.slice none 0 pc, .slice (some qa) c.pols.length qc] 28)).alloc (Obj.cells #[.slice none 0 0, .slice none 0 0] 28)) (a := ⟨w.heap.size + 1, o, none⟩) (by simp only [Below.heap_alloc _ _ (w.heap.size + 1) (show w.heap.size + 1 < ((w.alloc (Obj.cells #[.slice none 0 pc, .slice (some qa) c.pols.length qc] 28)).alloc (Obj.cells #[.slice none 0 0, .slice none 0 0] 28)).heap.size by simp)])]
    exact fz2 _ _ _ _ o)
  have HF2 := hid (show ∀ o, V.frozen? ⟨w.heap.size + 1 + 1, o, none⟩ = false from fun o => by
    rw [← hV]
    have := fz2 (w.alloc (Obj.cells #[.slice none 0 pc, .slice (some qa) c.pols.length qc] 28)) (Obj.cells #[.slice none 0 0, .slice none 0 0] 28) #[.slice none 0 0, .slice none 0 0] 28 o
    simp only [World.size_alloc] at this
    exact this)
  have HBV := hid (show Below w.heap.size w V from by rw [← hV]; exact bel)
  have HPV := hid (show lnPods w.heap.size (w.heap.size + 1 + 1 + 1) V none (.slice none 0 0) c.pods from Or.inl ⟨rfl, rfl, hp0⟩)
  clear hV
  go_loopw [6] (fun i wr => ∃ (k : Nat) (f : Nat → Nat), k ≤ c.pols.length ∧ i = .int .i64 k ∧ LnL 6 c.pols.length (eLnPol w (some qa) c.pols (w.heap.size + 1 + 1 + 1)) wr (w.heap.size + 1 + 1 + 1) f k ∧ f k = wr.heap.size ∧ Below V.heap.size V wr) (fun i _ => c.pols.length - (intOf i).toNat)
  case atStart =>
    refine ⟨0, fun _ => w.heap.size + 1 + 1 + 1 + 1, Nat.zero_le _, rfl, ⟨?_, Nat.lt_succ_self _, fun i hi => absurd hi (Nat.not_lt_zero _), fun i hi => absurd hi (Nat.not_lt_zero _)⟩, by rw [World.size_alloc, hsV], Ext.alloc (Below.refl _ _) _⟩
    have := HOY.out V
    rwa [hsV] at this
  case round =>
    obtain ⟨k, f, hk, rfl, hL, hf, hbv⟩ := hrel
    have HL := hid hL
    have HFK := hid hf
    have hgs := hL.lt hf
    have z1 := cell_to v1 hbv
    have HBV2 := hid hbv
    have hbw : Below w.heap.size w wr := Ext.trans HBV.out hbv
    by_cases hlt : k < c.pols.length
    · obtain ⟨x, hxk⟩ : ∃ x, c.pols[k]? = some x := ⟨c.pols[k], by simp [hlt]⟩
      have HX := hid hxk
      clear hxk
      obtain ⟨b, off, he, hb, c0, c1, c2, c3, ⟨oa, oc, c4, ho⟩, ia, ic, c5, hi⟩ := HQ.out.2 k x HX.out
      cases he
      have HO := hid ho
      have HI := hid hi
      have HC4 := hid c4
      have HC5 := hid c5
      have d0 := cell_to c0 hbw
      have d1 := cell_to c1 hbw
      have d2 := cell_to c2 hbw
      have d3 := cell_to c3 hbw
      have d4 := cell_to c4 hbw
      have d5 := cell_to c5 hbw
      clear hL hf hbv c0 c1 c2 c3 c4 c5 ho hi
      go_wp2_with fail
      refine (lentPolicy_any x oa ia oc ic wr (rdRules.to HO.out hbw) (rdRules.to HI.out hbw)).mono ?_
      rintro e w1 ⟨m, sa, sn, sc, ta, tn, tc, rfl, hm1, hm2, hl1, hl2, hb1⟩
      have HN1 := hid (lnRules.base HO.out hbw hl1)
      have HN2 := hid (lnRules.base HI.out hbw hl2)
      have HB1 := hid hb1
      have HO1 := hid (own_heap HL.out.1 (hb1.block _ hgs))
      have hfr := HO1.out.2
      obtain ⟨y0, e0⟩ := HO1.out.1 (k * 6) (by omega)
      obtain ⟨y1, e1⟩ := HO1.out.1 (k * 6 + 1) (by omega)
      obtain ⟨y2, e2⟩ := HO1.out.1 (k * 6 + 2) (by omega)
      obtain ⟨y3, e3⟩ := HO1.out.1 (k * 6 + 3) (by omega)
      obtain ⟨y4, e4⟩ := HO1.out.1 (k * 6 + 4) (by omega)
      obtain ⟨y5, e5⟩ := HO1.out.1 (k * 6 + 5) (by omega)
      have HST := hid (LnL.put (vs := [.int .i64 x.space, .int .i64 x.need, .int .i64 x.ban, .int .i64 x.ways, .slice sa sn sc, .slice ta tn tc]) (eLnPol.stab _ _ _ _) HL.out HFK.out HB1.out rfl hlt (fun ho => by
        intro y hy
        rw [HX.out] at hy
        cases hy
        have hsz : (sets w1 (w.heap.size + 1 + 1 + 1) (k * 6) [.int .i64 x.space, .int .i64 x.need, .int .i64 x.ban, .int .i64 x.ways, .slice sa sn sc, .slice ta tn tc]).heap.size = w1.heap.size := sets_size _ _ _ _
        refine ⟨m, _, _, hm1, by rw [hsz]; exact hm2, sets_at _ _ _ _ _ 0 _ rfl (by simp; omega) ho, sets_at _ _ _ _ _ 1 _ rfl (by simp; omega) ho, sets_at _ _ _ _ _ 2 _ rfl (by simp; omega) ho, sets_at _ _ _ _ _ 3 _ rfl (by simp; omega) ho, sets_at _ _ _ _ _ 4 _ rfl (by simp; omega) ho, sets_at _ _ _ _ _ 5 _ rfl (by simp; omega) ho, ?_, ?_⟩
        · rw [subA_eq (n := x.outs.length) (c := oc) (by have := HC4.out; rwa [Nat.add_assoc] at this)]
          exact HN1.out.heap fun j h1 h2 => sets_block _ _ _ _ _ (by omega)
        · rw [subA_eq (n := x.ins.length) (c := ic) (by have := HC5.out; rwa [Nat.add_assoc] at this), hsz]
          exact HN2.out.heap fun j h1 h2 => sets_block _ _ _ _ _ (by omega)))
      have HBF := hid (show Below V.heap.size V (sets w1 (w.heap.size + 1 + 1 + 1) (k * 6) [.int .i64 x.space, .int .i64 x.need, .int .i64 x.ban, .int .i64 x.ways, .slice sa sn sc, .slice ta tn tc]) from (Ext.trans HBV2.out hb1).trans ((sets_only _ _ _ _).below (by omega) (by have := hb1.size; omega)))
      clear hl1 hl2 hb1
      go_wp2
      obtain ⟨f', hf1, hf2⟩ := HST.out
      exact ⟨⟨k + 1, f', by omega, by go_num, hf1, hf2, HBF.out⟩, by simp [intOf]; omega⟩
    · have e : k = c.pols.length := by omega
      subst e
      have hfr := hL.1.2
      obtain ⟨y0, e0⟩ := hL.1.1 (c.pols.length * 6) (by omega)
      obtain ⟨y1, e1⟩ := hL.1.1 (c.pols.length * 6 + 1) (by omega)
      obtain ⟨y2, e2⟩ := hL.1.1 (c.pols.length * 6 + 2) (by omega)
      obtain ⟨y3, e3⟩ := hL.1.1 (c.pols.length * 6 + 3) (by omega)
      obtain ⟨y4, e4⟩ := hL.1.1 (c.pols.length * 6 + 4) (by omega)
      obtain ⟨y5, e5⟩ := hL.1.1 (c.pols.length * 6 + 5) (by omega)
      have g0 := cell_to h0 hbv
      have g1 := cell_to h1 hbv
      have s0 := cell_to r0 hbv
      have s1 := cell_to r1 hbv
      have fr1 : ∀ o, wr.frozen? ⟨w.heap.size + 1, o, none⟩ = false := fun o => by rw [hbv.frozen (p := ⟨w.heap.size + 1, o, none⟩) (by show w.heap.size + 1 < _; omega)]; exact HF1.out o
      have fr2 : ∀ o, wr.frozen? ⟨w.heap.size + 1 + 1, o, none⟩ = false := fun o => by rw [hbv.frozen (p := ⟨w.heap.size + 1 + 1, o, none⟩) (by show w.heap.size + 1 + 1 < _; omega)]; exact HF2.out o
      clear hL hf hbv
      go_wp2
      generalize hT : ((((((wr.setCell ⟨w.heap.size + 1 + 1 + 1, c.pols.length * 6, none⟩ (.int .i64 (-7))).setCell ⟨w.heap.size + 1 + 1 + 1, c.pols.length * 6 + 1, none⟩ (.int .i64 0)).setCell ⟨w.heap.size + 1 + 1 + 1, c.pols.length * 6 + 2, none⟩ (.int .i64 0)).setCell ⟨w.heap.size + 1 + 1 + 1, c.pols.length * 6 + 3, none⟩ (.int .i64 0)).setCell ⟨w.heap.size + 1 + 1 + 1, c.pols.length * 6 + 4, none⟩ (.slice none 0 0)).setCell ⟨w.heap.size + 1 + 1 + 1, c.pols.length * 6 + 5, none⟩ (.slice none 0 0)) = T
      have hT2 : T = sets wr (w.heap.size + 1 + 1 + 1) (c.pols.length * 6) [.int .i64 (-7), .int .i64 0, .int .i64 0, .int .i64 0, .slice none 0 0, .slice none 0 0] := hT.symm
      have LT := LnL.tail (eLnPol.stab w (some qa) c.pols (w.heap.size + 1 + 1 + 1)) (LnL.tail (eLnPol.stab w (some qa) c.pols (w.heap.size + 1 + 1 + 1)) (LnL.tail (eLnPol.stab w (some qa) c.pols (w.heap.size + 1 + 1 + 1)) (LnL.tail (eLnPol.stab w (some qa) c.pols (w.heap.size + 1 + 1 + 1)) (LnL.tail (eLnPol.stab w (some qa) c.pols (w.heap.size + 1 + 1 + 1)) (LnL.tail (eLnPol.stab w (some qa) c.pols (w.heap.size + 1 + 1 + 1)) HL.out (c.pols.length * 6) (by omega) (.int .i64 (-7))) (c.pols.length * 6 + 1) (by omega) (.int .i64 0)) (c.pols.length * 6 + 2) (by omega) (.int .i64 0)) (c.pols.length * 6 + 3) (by omega) (.int .i64 0)) (c.pols.length * 6 + 4) (by omega) (.slice none 0 0)) (c.pols.length * 6 + 5) (by omega) (.slice none 0 0)
      rw [hT] at LT
      clear hT
      have tsz : T.heap.size = wr.heap.size := by rw [hT2, sets_size]
      have tG : T.cell? ⟨w.heap.size + 1 + 1 + 1, c.pols.length * 6, none⟩ = some (.int .i64 (-7)) := by rw [hT2]; exact sets_at _ _ _ _ _ 0 _ rfl (by simp; omega) HL.out.1
      have tb : ∀ j, j ≠ w.heap.size + 1 + 1 + 1 → T.heap[j]? = wr.heap[j]? := fun j hj => by rw [hT2]; exact sets_block _ _ _ _ _ hj
      have tO : Only (w.heap.size + 1 + 1 + 1) (w.heap.size + 1 + 1 + 1 + 1) wr T := by rw [hT2]; exact sets_only _ _ _ _
      clear hT2
      have t0 : T.cell? ⟨w.heap.size + 1 + 1, 0, none⟩ = some (.slice none 0 0) := by rw [cell_heap (tb _ (by omega))]; exact g0
      have t1 : T.cell? ⟨w.heap.size + 1 + 1, 1, none⟩ = some (.slice none 0 0) := by rw [cell_heap (tb _ (by omega))]; exact g1
      have u0 : T.cell? ⟨w.heap.size + 1, 0, none⟩ = some (.slice none 0 0) := by rw [cell_heap (tb _ (by omega))]; exact s0
      have u1 : T.cell? ⟨w.heap.size + 1, 1, none⟩ = some (.slice none 0 0) := by rw [cell_heap (tb _ (by omega))]; exact s1
      generalize hU : ((T.setCell ⟨w.heap.size + 1 + 1, 1, none⟩ (.slice (some ⟨w.heap.size + 1 + 1 + 1, 0, none⟩) c.pols.length (c.pols.length + 1))).setCell ⟨w.heap.size + 1, 0, none⟩ (.slice none 0 0)).setCell ⟨w.heap.size + 1, 1, none⟩ (.slice (some ⟨w.heap.size + 1 + 1 + 1, 0, none⟩) c.pols.length (c.pols.length + 1)) = U
      have ub : ∀ j, j ≠ w.heap.size + 1 → j ≠ w.heap.size + 1 + 1 → U.heap[j]? = T.heap[j]? := fun j a1 a2 => by rw [← hU, Below.heap_setCell _ _ _ _ a1, Below.heap_setCell _ _ _ _ a1, Below.heap_setCell _ _ _ _ a2]
      have usz : U.heap.size = wr.heap.size := by rw [← hU]; simp only [World.setCell, Array.size_modify]; exact tsz
      have uO : Only (w.heap.size + 1) (w.heap.size + 1 + 1 + 1) T U := by rw [← hU]; exact (((Only.refl _ _ _).setCell (by show _ ≤ w.heap.size + 1 + 1; omega) (by show w.heap.size + 1 + 1 < _; omega) _).setCell (by show _ ≤ w.heap.size + 1; omega) (by show w.heap.size + 1 < _; omega) _).setCell (by show _ ≤ w.heap.size + 1; omega) (by show w.heap.size + 1 < _; omega) _
      have x0 : U.cell? ⟨w.heap.size + 1, 0, none⟩ = some (.slice none 0 0) := by
        rw [← hU, World.cell?_setCell_other _ _ _ _ (fun h => by simp at h)]
        exact World.cell?_setCell_same _ _ _ (by rw [World.cell?_setCell_other _ _ _ _ (fun h => by simp at h)]; exact u0)
      have x1 : U.cell? ⟨w.heap.size + 1, 1, none⟩ = some (.slice (some ⟨w.heap.size + 1 + 1 + 1, 0, none⟩) c.pols.length (c.pols.length + 1)) := by
        rw [← hU]
        exact World.cell?_setCell_same _ _ _ (by rw [World.cell?_setCell_other _ _ _ _ (fun h => by simp at h), World.cell?_setCell_other _ _ _ _ (fun h => by simp at h)]; exact u1)
      clear hU
      have hBU : Below w.heap.size w U := (hbw.trans (tO.below (by omega) (by omega))).trans (uO.below (by omega) (by omega))
      refine bodyPost_ret (v := .agg #[.slice none 0 0, .slice (some ⟨w.heap.size + 1 + 1 + 1, 0, none⟩) c.pols.length (c.pols.length + 1)]) (by simp [results, Tryz.results73, go_sem, x0, x1]) rfl ⟨w.heap.size + 1 + 1 + 1, _, _, _, _, _, _, rfl, by omega, by omega, ?_, Or.inr ⟨qa, w.heap.size + 1 + 1 + 1, f, rfl, Nat.le_refl _, by omega, rfl, LT.to (eLnPol.stab _ _ _ _) (ub _ (by omega) (by omega)) (fun j a1 a2 => ub j (by omega) (by omega)), ?_, ?_⟩, hBU⟩
      · exact lnPods_to HPV.out (fun j a1 a2 a3 => by rw [ub j (by omega) (by omega), tb j (by omega), HBV2.out.block j (by omega)]) (Or.inl rfl)
      · rw [HFK.out, usz]; exact Nat.le_refl _
      · rw [cell_heap (ub _ (by omega) (by omega))]; exact tG
end Go.Proofs.YtmkjlhplgcifiaaGreat
