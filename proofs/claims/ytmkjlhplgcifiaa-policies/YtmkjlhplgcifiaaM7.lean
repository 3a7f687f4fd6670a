/-
  A cluster lent.
-/
import Derived.Test.YtmkjlhplgcifiaaM6
namespace Go.Proofs.Ytmkjlhplgcifiaa
open Go.ChangeShapes Go.WideShapes Go.ChangeAt Go.RowKit
attribute [local simp] World.cell?_grow
attribute [local go_sem] World.cell?_grow
attribute [local simp] World.cell?_alloc_there
attribute [local go_sem] World.cell?_alloc_there
attribute [local go_sem] eqg_blk std_blk eqg_pod std_pod eqg_sel std_sel eqg_prt std_prt
attribute [local go_sem ↓] eql_blk eql_sel neq_sel eql_prt eql_pod
attribute [local go_sem ↓] met_in1 met_in2 met_re1 met_re2
set_option linter.unusedVariables false
set_option linter.unusedSimpArgs false

theorem alloc_at (w : World) (o : Obj) (n : Nat) (h : w.heap.size = n) : (w.alloc o).heap[n]? = some o := by subst h; exact alloc_heap w o

def lnPods (lo hi : Nat) (w : World) (a : Option Addr) (v : Value) (l : List DPod) : Prop :=
  (a = none ∧ v = .slice none 0 0 ∧ l = []) ∨ ∃ a' g, a = some a' ∧ lo ≤ g ∧ g < hi ∧ v = .slice (some ⟨g, 0, none⟩) l.length (l.length + 1) ∧ w.heap[g]? = some (.cells (l.flatMap oCells ++ ([.int .i64 (-7), .int .i64 0, .int .i64 0, .int .i64 0] : List Value)).toArray 32 (0, 0))
theorem lnPods.heap {lo hi : Nat} {w w' : World} {a : Option Addr} {v : Value} {l : List DPod} (h : lnPods lo hi w a v l) (hb : ∀ j, lo ≤ j → j < hi → w'.heap[j]? = w.heap[j]?) : lnPods lo hi w' a v l := by
  rcases h with h | ⟨a', g, h1, h2, h3, h4, h5⟩
  · exact Or.inl h
  · exact Or.inr ⟨a', g, h1, h2, h3, h4, by rw [hb g h2 h3]; exact h5⟩
theorem lnPods_to {lo hi : Nat} {w w' : World} {a : Option Addr} {v : Value} {l : List DPod} (h : lnPods lo hi w a v l) (hb : ∀ j, lo + 3 ≤ j → j < hi → v = .slice (some ⟨j, 0, none⟩) l.length (l.length + 1) → w'.heap[j]? = w.heap[j]?) (h3 : v = .slice none 0 0 ∨ ∃ n c, v = .slice (some ⟨lo + 3, 0, none⟩) n c) : lnPods lo hi w' a v l := by
  rcases h with h | ⟨a', g, h1, h2, h4, rfl, h5⟩
  · exact Or.inl h
  · rcases h3 with h3 | ⟨n, c, h3⟩
    · cases h3
    · cases h3
      exact Or.inr ⟨a', _, h1, h2, h4, rfl, by rw [hb _ (Nat.le_refl _) h4 rfl]; exact h5⟩
/-- element i of policies that are lent -/
def eLnPol (w0 : World) (a : Option Addr) (l : List DPol) (g : Nat) (w : World) (lo hi i : Nat) : Prop :=
  ∀ x, l[i]? = some x → ∃ m s t, lo ≤ m ∧ m ≤ hi ∧ w.cell? ⟨g, i * 6, none⟩ = some (.int .i64 x.space) ∧ w.cell? ⟨g, i * 6 + 1, none⟩ = some (.int .i64 x.need) ∧ w.cell? ⟨g, i * 6 + 2, none⟩ = some (.int .i64 x.ban) ∧ w.cell? ⟨g, i * 6 + 3, none⟩ = some (.int .i64 x.ways) ∧
    w.cell? ⟨g, i * 6 + 4, none⟩ = some s ∧ w.cell? ⟨g, i * 6 + 5, none⟩ = some t ∧ lnRules lo m w0 w (subA w0 a (i * 6 + 4)) s x.outs ∧ lnRules m hi w0 w (subA w0 a (i * 6 + 5)) t x.ins
theorem eLnPol.stab (w0 : World) (a : Option Addr) (l : List DPol) (g : Nat) : Stab 6 g (eLnPol w0 a l g) := by
  intro w w' lo hi i hc hb h x hx
  obtain ⟨m, s, t, h1, h2, c0, c1, c2, c3, h3, h4, h5, h6⟩ := h x hx
  refine ⟨m, s, t, h1, h2, ?_, ?_, ?_, ?_, ?_, ?_, h5.heap fun j h7 h8 => hb j h7 (by omega), h6.heap fun j h7 h8 => hb j (by omega) h8⟩
  · rw [hc _ (by omega) (by omega)]; exact c0
  · rw [hc _ (by omega) (by omega)]; exact c1
  · rw [hc _ (by omega) (by omega)]; exact c2
  · rw [hc _ (by omega) (by omega)]; exact c3
  · rw [hc _ (by omega) (by omega)]; exact h3
  · rw [hc _ (by omega) (by omega)]; exact h4
def lnPols (lo hi : Nat) (w0 w : World) (a : Option Addr) (v : Value) (l : List DPol) : Prop :=
  (a = none ∧ v = .slice none 0 0 ∧ l = []) ∨ ∃ a' g f, a = some a' ∧ lo ≤ g ∧ g < hi ∧ v = .slice (some ⟨g, 0, none⟩) l.length (l.length + 1) ∧ LnL 6 l.length (eLnPol w0 a l g) w g f l.length ∧ f l.length ≤ hi ∧ w.cell? ⟨g, l.length * 6, none⟩ = some (.int .i64 (-7))
theorem lnPols.heap {lo hi : Nat} {w0 w w' : World} {a : Option Addr} {v : Value} {l : List DPol} (h : lnPols lo hi w0 w a v l) (hb : ∀ j, lo ≤ j → j < hi → w'.heap[j]? = w.heap[j]?) : lnPols lo hi w0 w' a v l := by
  rcases h with h | ⟨a', g, f, h1, h2, h3, h4, h5, h6, h7⟩
  · exact Or.inl h
  · have hg := hb g h2 h3
    exact Or.inr ⟨a', g, f, h1, h2, h3, h4, LnL.to (eLnPol.stab _ _ _ _) h5 hg (fun j h8 h9 => hb j (by omega) (by omega)), h6, by rw [cell_heap hg]; exact h7⟩

theorem und_pod : Try.prog.underlying 23 = some (.slice 32) := Try.underlying23
theorem siz_pod : (Try.prog.info? 32).map (·.size) = some 4 := by kernel_rfl
theorem und_pol : Try.prog.underlying 24 = some (.slice 37) := Try.underlying24
theorem inf_pod : ∃ i z, Try.prog.info? 32 = some i ∧ i.zero = some z ∧ i.size = 4 ∧ i.bytes = 32 := by
  have h0 : (Try.prog.info? 32).isSome = true := by kernel_rfl
  have h1 : ((Try.prog.info? 32).bind (·.zero)).isSome = true := by kernel_rfl
  have h2 : (Try.prog.info? 32).map (·.bytes) = some 32 := by kernel_rfl
  have h3 := siz_pod
  obtain ⟨i, hi⟩ := Option.isSome_iff_exists.1 h0
  obtain ⟨z, hz⟩ := Option.isSome_iff_exists.1 h1
  rw [hi] at h2 h3 hz
  exact ⟨i, z, hi, by simpa using hz, by simpa using h3, by simpa using h2⟩
theorem inf_pol : ∃ i z, Try.prog.info? 37 = some i ∧ i.zero = some z ∧ i.size = 6 ∧ i.bytes = 80 := by
  have h0 : (Try.prog.info? 37).isSome = true := by kernel_rfl
  have h1 : ((Try.prog.info? 37).bind (·.zero)).isSome = true := by kernel_rfl
  have h2 : (Try.prog.info? 37).map (·.bytes) = some 80 := by kernel_rfl
  have h3 : (Try.prog.info? 37).map (·.size) = some 6 := by kernel_rfl
  obtain ⟨i, hi⟩ := Option.isSome_iff_exists.1 h0
  obtain ⟨z, hz⟩ := Option.isSome_iff_exists.1 h1
  rw [hi] at h2 h3 hz
  exact ⟨i, z, hi, by simpa using hz, by simpa using h3, by simpa using h2⟩
theorem make_pod (n : Nat) (h : n * 32 ≤ 140737488351232) : ∃ Z : Array Value, Z.size = (n + 1) * 4 ∧
    ∀ w : World, (Instr.makeSlice 23 (.int .i64 ((n : Int) + 1)) (.int .i64 ((n : Int) + 1))).run Try.prog w = .ok (.slice (some ⟨w.heap.size, 0, none⟩) (n + 1) (n + 1)) (w.alloc (.cells Z 32)) := by
  obtain ⟨i, z, h1, h2, h3, h4⟩ := inf_pod
  have e : ((n : Int) + 1).toNat = n + 1 := by omega
  refine ⟨madeCells z.cells ((n + 1) * 4), size_madeCells _ _, fun w => ?_⟩
  have := run_make (P := Try.prog) w 23 32 i _ und_pod h1 h2 .i64 .i64 ((n : Int) + 1) ((n : Int) + 1) (by omega) (by omega) (by rw [h4]; omega) (by omega)
  rwa [h3, e] at this
theorem make_pol (n : Nat) (h : n * 80 ≤ 140737488351232) : ∃ Z : Array Value, Z.size = (n + 1) * 6 ∧
    ∀ w : World, (Instr.makeSlice 24 (.int .i64 ((n : Int) + 1)) (.int .i64 ((n : Int) + 1))).run Try.prog w = .ok (.slice (some ⟨w.heap.size, 0, none⟩) (n + 1) (n + 1)) (w.alloc (.cells Z 37)) := by
  obtain ⟨i, z, h1, h2, h3, h4⟩ := inf_pol
  have e : ((n : Int) + 1).toNat = n + 1 := by omega
  refine ⟨madeCells z.cells ((n + 1) * 6), size_madeCells _ _, fun w => ?_⟩
  have := run_make (P := Try.prog) w 24 37 i _ und_pol h1 h2 .i64 .i64 ((n : Int) + 1) ((n : Int) + 1) (by omega) (by omega) (by rw [h4]; omega) (by omega)
  rwa [h3, e] at this
theorem lens_pod (x : DPod) : (oCells x).length = 4 := rfl
theorem src_pod (B : Nat) (w : World) (a : Addr) (l : List DPod) (h : rdPods B w (some a) l) : ∀ j v, (l.flatMap oCells)[j]? = some v → w.cell? (a.add j) = some v := by
  intro j v hj
  obtain ⟨x, h1, h2⟩ := flat_get oCells 4 lens_pod (by omega) l j v hj
  obtain ⟨b, off, he, hb, h3⟩ := h.2 _ x h1
  cases he
  have ha : (⟨b, off, none⟩ : Addr).add j = ⟨b, off + j / 4 * 4 + j % 4, none⟩ := by
    have : j / 4 * 4 + j % 4 = j := by omega
    unfold Addr.add
    split
    · rename_i h0; subst h0; simp
    · simp only [Addr.mk.injEq, true_and, and_true]; omega
  rw [ha]
  unfold ePod at h3
  obtain ⟨g0, g1, g2, g3⟩ := h3
  have hlt : j % 4 < 4 := Nat.mod_lt _ (by omega)
  generalize j % 4 = r at h2 hlt
  match r, hlt with
  | 0, _ => simp [oCells] at h2; subst h2; exact g0
  | 1, _ => simp [oCells] at h2; subst h2; exact g1
  | 2, _ => simp [oCells] at h2; subst h2; exact g2
  | 3, _ => simp [oCells] at h2; subst h2; exact g3

set_option maxRecDepth 100000 in
set_option maxHeartbeats 8000000 in
theorem lent_nn (c : DClu) (pc qc : Nat) (w : World) (hp0 : c.pods = []) (hq0 : c.pols = []) :
    Calls Try.prog 9 #[.agg #[.slice none 0 pc, .slice none 0 qc]] w
      fun e w' => ∃ m sa sn sc ta tn tc, e = .returned (.agg #[.slice sa sn sc, .slice ta tn tc]) ∧ w.heap.size ≤ m ∧ m ≤ w'.heap.size ∧ lnPods w.heap.size m w' none (.slice sa sn sc) c.pods ∧ lnPols m w'.heap.size w w' none (.slice ta tn tc) c.pols ∧ Below w.heap.size w w' := by
  have hqp : ∀ w, (binOp .neq 23 (.slice none 0 pc) (.slice none 0 0)).run Try.prog w = .ok (.bool false) w := fun w => run_neq_slice_nil_any w 23 32 _ _ _ _ _ und_pod
  have hqq : ∀ w, (binOp .neq 24 (.slice none 0 qc) (.slice none 0 0)).run Try.prog w = .ok (.bool false) w := fun w => run_neq_slice_nil_any w 24 37 _ _ _ _ _ und_pol
  go_enter Try.func9, Try.ntmps9
  go_wp2
  refine bodyPost_ret (v := .agg #[.slice none 0 0, .slice none 0 0]) (by simp [results, Try.results9, go_sem]) rfl ⟨w.heap.size, none, 0, 0, none, 0, 0, rfl, Nat.le_refl _, by simp; omega, Or.inl ⟨rfl, rfl, hp0⟩, Or.inl ⟨rfl, rfl, hq0⟩, (by repeat (first | exact Below.refl _ _ | assumption | apply Ext.alloc | apply Ext.drewN | apply Ext.drew | refine Ext.trans ?_ (by assumption)))⟩

set_option maxRecDepth 100000 in
set_option maxHeartbeats 8000000 in
theorem lent_pn (c : DClu) (pa : Addr) (pc qc : Nat) (w : World) (hp : rdPods w.heap.size w (some pa) c.pods) (hq0 : c.pols = []) :
    Calls Try.prog 9 #[.agg #[.slice (some pa) c.pods.length pc, .slice none 0 qc]] w
      fun e w' => ∃ m sa sn sc ta tn tc, e = .returned (.agg #[.slice sa sn sc, .slice ta tn tc]) ∧ w.heap.size ≤ m ∧ m ≤ w'.heap.size ∧ lnPods w.heap.size m w' (some pa) (.slice sa sn sc) c.pods ∧ lnPols m w'.heap.size w w' none (.slice ta tn tc) c.pols ∧ Below w.heap.size w w' := by
  have hqp : ∀ w, (binOp .neq 23 (.slice (some pa) c.pods.length pc) (.slice none 0 0)).run Try.prog w = .ok (.bool true) w := fun w => run_neq_slice_nil_any w 23 32 _ _ _ _ _ und_pod
  have hqq : ∀ w, (binOp .neq 24 (.slice none 0 qc) (.slice none 0 0)).run Try.prog w = .ok (.bool false) w := fun w => run_neq_slice_nil_any w 24 37 _ _ _ _ _ und_pol
  have hlp := hp.1
  obtain ⟨Z, hZ, hmk⟩ := make_pod c.pods.length hlp
  have hfl := flat_len oCells 4 lens_pod c.pods
  have hcp := copy_big Try.prog ((((w.alloc (Obj.cells #[.slice (some pa) c.pods.length pc, .slice none 0 qc] 26)).alloc (Obj.cells #[.slice none 0 0, .slice none 0 0] 26)).alloc (Obj.cells #[.slice none 0 0, .slice none 0 0] 26)).alloc (.cells Z 32)) 23 23 3 32 (((w.alloc (Obj.cells #[.slice (some pa) c.pods.length pc, .slice none 0 qc] 26)).alloc (Obj.cells #[.slice none 0 0, .slice none 0 0] 26)).alloc (Obj.cells #[.slice none 0 0, .slice none 0 0] 26)).heap.size (c.pods.length + 1) (c.pods.length + 1) pa c.pods.length pc 4 Z 32 (c.pods.flatMap oCells) und_pod siz_pod (alloc_heap _ _) hfl (by omega)
    (fun j v hj => cell_past (cell_past (cell_past (cell_past (src_pod _ w pa c.pods hp j v hj))))) (by rw [hfl, hZ, Nat.succ_mul]; omega) (fun v hv => by
      obtain ⟨x, _, hx⟩ := List.mem_flatMap.1 hv
      simp [oCells] at hx
      rcases hx with rfl | rfl | rfl | rfl <;> rfl)
  rw [setRow_alloc] at hcp
  obtain ⟨C, hC⟩ : ∃ C, C = (c.pods.flatMap oCells ++ Z.toList.drop (c.pods.flatMap oCells).length).toArray := ⟨_, rfl⟩
  rw [← hC] at hcp
  simp only [World.size_alloc] at hcp
  have HCg := hid (show ∀ r, r < 4 → C[c.pods.length * 4 + r]? = some (Z.getD (c.pods.length * 4 + r) default) from fun r hr => by
    rw [hC, List.getElem?_toArray, flat_end oCells 4 lens_pod, List.getElem?_drop, hfl]
    have : c.pods.length * 4 + r < Z.size := by rw [hZ, Nat.succ_mul]; omega
    simp [Array.getD, this])
  have HD := hid (show ((((C.setIfInBounds (c.pods.length * 4) (.int .i64 (-7))).setIfInBounds (c.pods.length * 4 + 1) (.int .i64 0)).setIfInBounds (c.pods.length * 4 + 2) (.int .i64 0)).setIfInBounds (c.pods.length * 4 + 3) (.int .i64 0)) = (c.pods.flatMap oCells ++ ([.int .i64 (-7), .int .i64 0, .int .i64 0, .int .i64 0] : List Value)).toArray by
    rw [hC]
    have hdl : (Z.toList.drop (c.pods.flatMap oCells).length).length = 4 := by rw [List.length_drop, hfl]; simp [hZ, Nat.succ_mul]
    generalize Z.toList.drop (c.pods.flatMap oCells).length = t at hdl
    match t, hdl with
    | [t0, t1, t2, t3], _ =>
      apply Array.ext'
      simp only [Array.toList_setIfInBounds]
      rw [← hfl]
      simp [List.set_append])
  clear hC hZ hp
  have q0 : C[c.pods.length * 4]? = some (Z.getD (c.pods.length * 4 + 0) default) := HCg.out 0 (by omega)
  have q1 : C[c.pods.length * 4 + 1]? = some (Z.getD (c.pods.length * 4 + 1) default) := HCg.out 1 (by omega)
  have q2 : C[c.pods.length * 4 + 2]? = some (Z.getD (c.pods.length * 4 + 2) default) := HCg.out 2 (by omega)
  have q3 : C[c.pods.length * 4 + 3]? = some (Z.getD (c.pods.length * 4 + 3) default) := HCg.out 3 (by omega)
  go_enter Try.func9, Try.ntmps9
  go_wp2
  rw [HD.out]
  refine bodyPost_ret (v := .agg #[.slice (some ⟨w.heap.size + 1 + 1 + 1, 0, none⟩) c.pods.length (c.pods.length + 1), .slice none 0 0]) (by simp [results, Try.results9, go_sem]) rfl ⟨w.heap.size + 4, _, _, _, none, 0, 0, rfl, by omega, by simp, Or.inr ⟨pa, w.heap.size + 1 + 1 + 1, rfl, by omega, by omega, rfl, alloc_at _ _ _ (by simp)⟩, Or.inl ⟨rfl, rfl, hq0⟩, (by repeat (first | exact Below.refl _ _ | assumption | apply Ext.alloc | apply Ext.drewN | apply Ext.drew | refine Ext.trans ?_ (by assumption)))⟩
end Go.Proofs.Ytmkjlhplgcifiaa
