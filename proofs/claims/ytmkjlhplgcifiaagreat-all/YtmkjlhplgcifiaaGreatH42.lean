/-
  palisadelaw: World.compiled, a cluster that is right: the document's cluster lies in rows of its own.
-/
import Derived.Test.YtmkjlhplgcifiaaGreatH41
import Derived.Test.YtmkjlhplgcifiaaGreatH08
import Derived.Test.YtmkjlhplgcifiaaGreatH14
import Derived.Test.YtmkjlhplgcifiaaGreatH27
namespace Go.Proofs.YtmkjlhplgcifiaaGreat
open Go.ChangeShapes Go.WideShapes Go.ChangeAt Go.RowKit
set_option linter.unusedVariables false
set_option linter.unusedSimpArgs false
attribute [local simp] World.cell?_grow World.cell?_alloc_there
attribute [local go_sem] World.cell?_grow World.cell?_alloc_there eqg_blk std_blk eqg_pod std_pod eqg_sel std_sel eqg_prt std_prt eqg_row std_row
attribute [local go_sem ↓] eql_blk eql_sel neq_sel eql_prt eql_pod met_in1 met_in2 met_re1 met_re2 met_has1 met_has2 met_bl1 met_bl2 neq_row
def OwnPair (B : Nat) (w : World) (G : Nat → Bool) (v v' : Value) (c : DClu) : Prop :=
  w.ownsRow B 54 4 v c.pods.length (c.pods.flatMap encPod) ∧ ∃ ys : List RPol, ys.map (·.d) = c.pols ∧ w.ownsRow B 59 6 v' ys.length (ys.flatMap encPol) ∧ ∀ y ∈ ys, y.ok w.heap.size (hide w G)
def CompiledOwn (wb B : Nat) (vl vd : Value) (Ps : List (Nat × Nat)) (c : DClu) (w w' : World) : Prop :=
  ∃ (vl' : Value) (tb rb : Nat) (u0 u1 u2 v v' : Value), w.heap.size ≤ tb ∧ tb < rb ∧ rb < w'.heap.size ∧ w'.heap[wb]? = some (.cells #[vl', vd] 85 (0, 0)) ∧ w'.ownsRow B 119 2 vl' (Ps ++ [(tb, rb)]).length ((Ps ++ [(tb, rb)]).flatMap encPair) ∧
    (vl'.ownBlock = vl.ownBlock ∨ ∃ g, vl'.ownBlock = some g ∧ rb < g) ∧ w'.heap[tb]? = some (.cells #[u0, u1, u2] 94 (0, 0)) ∧ w'.heap[rb]? = some (.cells #[v, v'] 144 (0, 0)) ∧
    (∀ g, v.ownBlock = some g → tb < g ∧ g < rb) ∧ (∀ g, v'.ownBlock = some g → tb < g ∧ g < rb) ∧
    TabC w'.heap.size (hide w' (fun b => decide (b ≤ tb) || decide (rb ≤ b) || decide (v.ownBlock = some b) || decide (v'.ownBlock = some b))) u0 u1 u2 c ∧ OwnPair B w' (fun b => decide (b ≤ tb) || decide (rb ≤ b) || decide (v.ownBlock = some b) || decide (v'.ownBlock = some b)) v v' c ∧
    w'.os = w.os ∧ w'.tape = w.tape ∧ w'.output = w.output ∧ ∀ b, b < w.heap.size → b ≠ wb → vl.ownBlock ≠ some b → w'.heap[b]? = w.heap[b]?
set_option maxRecDepth 100000 in
set_option maxHeartbeats 4000000 in
theorem compiled_own (wb B : Nat) (vl vd : Value) (Ps : List (Nat × Nat)) (c : DClu) (pa qa : Option Addr) (pc qc : Nat) (w : World) (hp : rdPods w.heap.size w pa c.pods) (hq : rdPols w.heap.size w qa c.pols) (hr : (right c).1 = 0)
    (hblk : w.heap[wb]? = some (.cells #[vl, vd] 85 (0, 0))) (hol : w.ownsRow B 119 2 vl Ps.length (Ps.flatMap encPair)) (hBw : B ≤ wb) (hPl : (Ps.length + 1) * 16 ≤ 140737488355328) :
    Calls Tryz.prog 49 #[.pointer (some ⟨wb, 0, none⟩), .agg #[.slice pa c.pods.length pc, .slice qa c.pols.length qc]] w fun e w' => e = .returned (.bool true) ∧ CompiledOwn wb B vl vd Ps c w w' := by
  have HBLK := hid hblk
  have HOL := hid hol
  obtain ⟨la, lc, hvl, hlc, _⟩ := own_slice hol
  subst hvl
  clear hblk hol
  have HP := hid hp
  have HQ := hid hq
  clear hp hq
  go_enter Tryz.func49, Tryz.ntmps49
  go_wp2_with fail
  generalize hW : w.alloc (Obj.cells #[.slice pa c.pods.length pc, .slice qa c.pols.length qc] 28) = W
  have hsW : W.heap.size = w.heap.size + 1 := by rw [← hW]; simp
  have HBW := hid (show Below w.heap.size w W from by rw [← hW]; exact bel)
  have a4 : W.cell? ⟨w.heap.size, 0, none⟩ = some (.slice pa c.pods.length pc) := by rw [← hW]; simp [go_sem]
  have a5 : W.cell? ⟨w.heap.size, 1, none⟩ = some (.slice qa c.pols.length qc) := by rw [← hW]; simp [go_sem]
  clear hW
  refine (lent_any c pa qa pc qc W (rdPods.to HP.out HBW.out) (rdPols.to HQ.out HBW.out)).mono ?_
  rintro e w1 ⟨m, sa, sn, sc, ta, tn, tc, rfl, hm1, hm2, hl1, hl2, hb1⟩
  obtain ⟨ss, cc, e1, hcc, hr1⟩ := hl1.rd HP.out.1 (B := w1.heap.size) hm2
  obtain ⟨tt, dd, e2, hr2⟩ := hl2.rd HQ.out (B := w1.heap.size) (Nat.le_refl _)
  cases e1
  cases e2
  have HL1 := hid hl1
  have HL2 := hid hl2
  have HR1 := hid hr1
  have HR2 := hid hr2
  have HB1 := hid hb1
  have hs1 := hb1.size
  have b4 : ∀ o, (w1.alloc o).cell? ⟨w.heap.size, 0, none⟩ = some (.slice pa c.pods.length pc) := fun o => cell_past (cell_to a4 hb1)
  have b5 : ∀ o, (w1.alloc o).cell? ⟨w.heap.size, 1, none⟩ = some (.slice qa c.pols.length qc) := fun o => cell_past (cell_to a5 hb1)
  clear hl1 hl2 hr1 hr2 hb1 a4 a5
  go_wp2_with fail
  generalize hX : w1.alloc (Obj.cells #[.slice sa c.pods.length sc, .slice ta c.pols.length tc] 28) = X
  have hsX : X.heap.size = w1.heap.size + 1 := by rw [← hX]; simp
  have HBX := hid (show Below w1.heap.size w1 X from by rw [← hX]; exact bel)
  have h0 : X.cell? ⟨w1.heap.size, 0, none⟩ = some (.slice sa c.pods.length sc) := by rw [← hX]; simp [go_sem]
  have h1 : X.cell? ⟨w1.heap.size, 1, none⟩ = some (.slice ta c.pols.length tc) := by rw [← hX]; simp [go_sem]
  have q4 : X.cell? ⟨w.heap.size, 0, none⟩ = some (.slice pa c.pods.length pc) := by rw [← hX]; exact b4 _
  have q5 : X.cell? ⟨w.heap.size, 1, none⟩ = some (.slice qa c.pols.length qc) := by rw [← hX]; exact b5 _
  clear hX b4 b5
  refine (compile_ok c sa ta sc tc X (rdPods.ext HBX.out (by omega) HR1.out) (rdPols.ext HBX.out (by omega) HR2.out) hcc hr).mono ?_
  rintro e w2 ⟨⟨tb, rfl, htb, k0, k1, k2, hkt, hkc⟩, hb2⟩
  have HKT := hid hkt
  have HKC := hid hkc
  have hr2 : right c = (0, (right c).2) := by rw [← hr]
  have hr3 : (right c).2 = 0 := right_zero2 hr
  clear hkt hkc hr2
  have HB2 := hid hb2
  have hs2 := hb2.size
  have i0 := cell_to h0 hb2
  have i1 := cell_to h1 hb2
  have r4 := cell_to q4 hb2
  have r5 := cell_to q5 hb2
  have HB12 := hid (Ext.trans HBX.out hb2)
  clear hb2 h0 h1 q4 q5
  go_wp2_with fail
  have hBB : Below w.heap.size w w2 := Ext.trans (Ext.trans HBW.out HB1.out) HB12.out
  refine (back_any c pa qa pc qc sa ta c.pods.length sc c.pols.length tc w.heap.size W.heap.size m w1.heap.size w2 (rdPods.ext hBB (Nat.le_refl _) HP.out) (rdPols.ext hBB (Nat.le_refl _) HQ.out) (by omega) hm1 hm2 HB12.out.size (HL1.out.heap fun j x1 x2 => HB12.out.block j (by omega)) (lnPols.fwd (B := w.heap.size) (rdPols.ext HBW.out (Nat.le_refl _) HQ.out) ((Ext.trans HB1.out HB12.out).mono (by omega)) (HL2.out.heap fun j x1 x2 => HB12.out.block j (by omega)))).mono ?_
  rintro e w3 ⟨rfl, hon⟩
  have hB3 : Below w.heap.size w w3 := hBB.trans (hon.below (by omega) (by omega))
  have hs3 := hon.2.1
  have u4 := hon.cell r4 (by omega)
  have u5 := hon.cell r5 (by omega)
  have HON := hid hon
  clear i0 i1 hon r4 r5
  go_wp2_with fail
  refine (refRight_any c pa qa pc qc w3 (rdPods.to HP.out hB3) (rdPols.to HQ.out hB3)).mono ?_
  rintro e w4 ⟨rfl, hb4⟩
  have HB4 := hid (Ext.trans hB3 hb4)
  have HB34 := hid hb4
  have v4 := cell_to u4 hb4
  have v5 := cell_to u5 hb4
  clear hb4 u4 u5
  have hg1 : (right c).1 = 0 := hr
  rw [hr, hr3]
  clear hr hr3 hg1
  go_wp2_with fail
  refine (num_any 0 _).mono ?_
  rintro e w5 ⟨rfl, rfl⟩
  go_wp2_with fail
  refine (copied_own c pa qa pc qc w5 (rdPods.to HP.out HB4.out) (rdPols.to HQ.out HB4.out)).mono ?_
  rintro e w6 ⟨⟨v, v', rfl, hcl⟩, hb6⟩
  obtain ⟨mm, hmm, hvm, hk1, ys, hys, hk2⟩ := hcl
  obtain ⟨ka, kn, hv1, _, _⟩ := own_slice hk1.1
  obtain ⟨ka', kn', hv2, _, _⟩ := own_slice hk2.1
  have hyl : ys.length = c.pols.length := by rw [← hys, List.length_map]
  rw [hyl] at hv2
  subst hv1 hv2
  have HVM := hid hvm
  have HYS := hid hys
  clear hvm hys hyl
  have HK1 := hid hk1
  have HK2 := hid hk2
  have HB6 := hid (Ext.trans HB4.out hb6)
  have HB56 := hid hb6
  have q0 : w6.cell? ⟨wb, 0, none⟩ = some (.slice la Ps.length lc) := (blk_cell ((HB6.out.block wb (Array.getElem?_eq_some_iff.1 HBLK.out).1).trans HBLK.out) 0).trans rfl
  have qf := blk_frozen ((HB6.out.block wb (Array.getElem?_eq_some_iff.1 HBLK.out).1).trans HBLK.out)
  have hs6 := HB6.out.size
  have hwb := (Array.getElem?_eq_some_iff.1 HBLK.out).1
  have HQB := hid ((HB6.out.block wb (Array.getElem?_eq_some_iff.1 HBLK.out).1).trans HBLK.out)
  clear hk1 hk2 hb6 v4 v5 HL1 HL2 HR1 HR2
  go_upto_region 9 with fail
  have y0 : (w6.alloc (.cells #[.slice ka c.pods.length kn, .slice ka' c.pols.length kn'] 28)).cell? ⟨w6.heap.size, 0, none⟩ = some (.slice ka c.pods.length kn) := by simp [go_sem]
  have y1 : (w6.alloc (.cells #[.slice ka c.pods.length kn, .slice ka' c.pols.length kn'] 28)).cell? ⟨w6.heap.size, 1, none⟩ = some (.slice ka' c.pols.length kn') := by simp [go_sem]
  have y2 : (w6.alloc (.cells #[.slice ka c.pods.length kn, .slice ka' c.pols.length kn'] 28)).cell? ⟨wb, 0, none⟩ = some (.slice la Ps.length lc) := cell_past q0
  have y3 : (w6.alloc (.cells #[.slice ka c.pods.length kn, .slice ka' c.pols.length kn'] 28)).heap[wb]? = some (.cells #[.slice la Ps.length lc, vd] 85 (0, 0)) := (Below.heap_alloc _ _ _ (by omega)).trans HQB.out
  have hsY : (w6.alloc (.cells #[.slice ka c.pods.length kn, .slice ka' c.pols.length kn'] 28)).heap.size = w6.heap.size + 1 := World.size_alloc _ _
  have hbY : Below w.heap.size w (w6.alloc (.cells #[.slice ka c.pods.length kn, .slice ka' c.pols.length kn'] 28)) := Ext.trans HB6.out bel
  have hy6 : Below w6.heap.size w6 (w6.alloc (.cells #[.slice ka c.pods.length kn, .slice ka' c.pols.length kn'] 28)) := bel
  generalize (w6.alloc (.cells #[.slice ka c.pods.length kn, .slice ka' c.pols.length kn'] 28)) = Y at y0 y1 y2 y3 hsY hbY hy6 ⊢
  have y4 := blk_frozen y3
  have HY3 := hid y3
  have HBY := hid hbY
  have HOLY := hid (own_to HOL.out hbY)
  have hYs : w.heap.size ≤ Y.heap.size := by omega
  have hY6 : w6.heap.size < Y.heap.size := by omega
  have HSY := hid hsY
  have HY6 := hid hy6
  clear q0 qf y3 hbY hsY hy6
  have hdw : (Value.slice la Ps.length lc).ownBlock ≠ some wb := fun e => by
    obtain ⟨_, ⟨h, _⟩ | ⟨g, cap, cur, h, _, hg, _⟩⟩ := HOL.out
    · rw [h] at e; cases e
    · rw [h] at e
      have e2 : g = wb := by simpa [Value.ownBlock] using e
      rw [e2, HBLK.out] at hg
      cases hg
  have hsZ : (Y.alloc (.cells #[.slice ka c.pods.length kn, .slice ka' c.pols.length kn'] 144)).heap.size = Y.heap.size + 1 := World.size_alloc _ _
  have hsV : (((Y.alloc (.cells #[.slice ka c.pods.length kn, .slice ka' c.pols.length kn'] 144)).alloc (.cells #[.pointer (some ⟨tb, 0, none⟩), .pointer (some ⟨Y.heap.size, 0, none⟩)] 119)).drew).heap.size = Y.heap.size + 2 := (show ((Y.alloc (.cells #[.slice ka c.pods.length kn, .slice ka' c.pols.length kn'] 144)).alloc (.cells #[.pointer (some ⟨tb, 0, none⟩), .pointer (some ⟨Y.heap.size, 0, none⟩)] 119)).heap.size = Y.heap.size + 2 from (World.size_alloc _ _).trans (by rw [hsZ]))
  have HNW := hid (show ∀ (j : Nat) (u : Value), [.pointer (some ⟨tb, 0, none⟩), .pointer (some ⟨Y.heap.size, 0, none⟩)][j]? = some u → (((Y.alloc (.cells #[.slice ka c.pods.length kn, .slice ka' c.pols.length kn'] 144)).alloc (.cells #[.pointer (some ⟨tb, 0, none⟩), .pointer (some ⟨Y.heap.size, 0, none⟩)] 119)).drew).cell? ((⟨Y.heap.size + 1, 0, none⟩ : Addr).add j) = some u from (show ∀ (j : Nat) (u : Value), [.pointer (some ⟨tb, 0, none⟩), .pointer (some ⟨Y.heap.size, 0, none⟩)][j]? = some u → ((Y.alloc (.cells #[.slice ka c.pods.length kn, .slice ka' c.pols.length kn'] 144)).alloc (.cells #[.pointer (some ⟨tb, 0, none⟩), .pointer (some ⟨Y.heap.size, 0, none⟩)] 119)).cell? ((⟨Y.heap.size + 1, 0, none⟩ : Addr).add j) = some u from by rw [← hsZ]; exact cell_new_list (Y.alloc (.cells #[.slice ka c.pods.length kn, .slice ka' c.pols.length kn'] 144)) [.pointer (some ⟨tb, 0, none⟩), .pointer (some ⟨Y.heap.size, 0, none⟩)] _))
  have HOLV := hid (show (((Y.alloc (.cells #[.slice ka c.pods.length kn, .slice ka' c.pols.length kn'] 144)).alloc (.cells #[.pointer (some ⟨tb, 0, none⟩), .pointer (some ⟨Y.heap.size, 0, none⟩)] 119)).drew).ownsRow B 119 2 (.slice la Ps.length lc) Ps.length (Ps.flatMap encPair) from (show ((Y.alloc (.cells #[.slice ka c.pods.length kn, .slice ka' c.pols.length kn'] 144)).alloc (.cells #[.pointer (some ⟨tb, 0, none⟩), .pointer (some ⟨Y.heap.size, 0, none⟩)] 119)).ownsRow B 119 2 (.slice la Ps.length lc) Ps.length (Ps.flatMap encPair) from (HOLY.out.alloc _).alloc _))
  have HVW := hid (show (((Y.alloc (.cells #[.slice ka c.pods.length kn, .slice ka' c.pols.length kn'] 144)).alloc (.cells #[.pointer (some ⟨tb, 0, none⟩), .pointer (some ⟨Y.heap.size, 0, none⟩)] 119)).drew).heap[wb]? = some (.cells #[.slice la Ps.length lc, vd] 85 (0, 0)) from (show ((Y.alloc (.cells #[.slice ka c.pods.length kn, .slice ka' c.pols.length kn'] 144)).alloc (.cells #[.pointer (some ⟨tb, 0, none⟩), .pointer (some ⟨Y.heap.size, 0, none⟩)] 119)).heap[wb]? = some (.cells #[.slice la Ps.length lc, vd] 85 (0, 0)) from (Below.heap_alloc _ _ _ (by rw [hsZ]; omega)).trans ((Below.heap_alloc _ _ _ (by omega)).trans HY3.out)))
  obtain ⟨ip0, hip, ipz0, ipz1, ipz2⟩ := info_parts info_pair
  go_region_law (refine step_append_at (((Y.alloc (.cells #[.slice ka c.pods.length kn, .slice ka' c.pols.length kn'] 144)).alloc (.cells #[.pointer (some ⟨tb, 0, none⟩), .pointer (some ⟨Y.heap.size, 0, none⟩)] 119)).drew) (by rfl) (.tmp 57) (.tmp 63) 80 (by rfl) B 119 ip0 _ 2 16 Tryz.underlying80 hip ipz0 ipz1 ipz2 rfl (by decide) _ _ _ (by rfl) HOLV.out ⟨Y.heap.size + 1, 0, none⟩ 1 1 [.pointer (some ⟨tb, 0, none⟩), .pointer (some ⟨Y.heap.size, 0, none⟩)] (by first | rfl | simp [Act.eval, Act.put, hsZ]) rfl HNW.out (by intro u hu; simp only [List.mem_cons, List.not_mem_nil, or_false] at hu; rcases hu with rfl | rfl <;> rfl) (by unfold maxLen; omega) hPl (by omega) ?_; intro vl' w8 hown8 hg8 hat8; have HG8 := hid hg8; have HAT8 := hid hat8; have HO8 := hid hown8; have h8w : w8.heap[wb]? = some (.cells #[.slice la Ps.length lc, vd] 85 (0, 0)) := (hg8.block wb (by omega) (fun e => hdw e.symm)).trans HVW.out; have q8 : w8.cell? ⟨wb, 0, none⟩ = some (.slice la Ps.length lc) := (blk_cell h8w 0).trans rfl; have qf8 := blk_frozen h8w; have H8W := hid h8w; obtain ⟨ea, ec, hvl', _, _⟩ := own_slice hown8; subst hvl'; clear hown8 hg8 hat8 h8w)
  all_goals (
    go_wp2
    go_ret
    refine ⟨rfl, ?_⟩
    have g8 := hid (show (((Y.alloc (.cells #[.slice ka c.pods.length kn, .slice ka' c.pols.length kn'] 144)).alloc (.cells #[.pointer (some ⟨tb, 0, none⟩), .pointer (some ⟨Y.heap.size, 0, none⟩)] 119)).drew).grownBy w8 (Value.slice la Ps.length lc).ownBlock from HG8.out)
    have at8 := hid (show (Value.slice ea (Ps.length + 1) ec).ownBlock = (Value.slice la Ps.length lc).ownBlock ∨ (Value.slice ea (Ps.length + 1) ec).ownBlock = some (((Y.alloc (.cells #[.slice ka c.pods.length kn, .slice ka' c.pols.length kn'] 144)).alloc (.cells #[.pointer (some ⟨tb, 0, none⟩), .pointer (some ⟨Y.heap.size, 0, none⟩)] 119)).drew).heap.size from HAT8.out)
    have hlt2 : tb < w2.heap.size := (Array.getElem?_eq_some_iff.1 HKT.out).1
    have h35 := HB34.out.size
    have h56 := HB56.out.size
    have hs8 := g8.out.size
    have hol : ∀ g, (Value.slice la Ps.length lc).ownBlock = some g → g < w.heap.size := fun g hg => (HOL.out.lt g hg).2
    have HV : ∀ b, b < Y.heap.size → (((Y.alloc (.cells #[.slice ka c.pods.length kn, .slice ka' c.pols.length kn'] 144)).alloc (.cells #[.pointer (some ⟨tb, 0, none⟩), .pointer (some ⟨Y.heap.size, 0, none⟩)] 119)).drew).heap[b]? = Y.heap[b]? := fun b hb => (show ((Y.alloc (.cells #[.slice ka c.pods.length kn, .slice ka' c.pols.length kn'] 144)).alloc (.cells #[.pointer (some ⟨tb, 0, none⟩), .pointer (some ⟨Y.heap.size, 0, none⟩)] 119)).heap[b]? = Y.heap[b]? from (Below.heap_alloc _ _ _ (by rw [hsZ]; omega)).trans (Below.heap_alloc _ _ _ hb))
    have H8 : ∀ b, b < (((Y.alloc (.cells #[.slice ka c.pods.length kn, .slice ka' c.pols.length kn'] 144)).alloc (.cells #[.pointer (some ⟨tb, 0, none⟩), .pointer (some ⟨Y.heap.size, 0, none⟩)] 119)).drew).heap.size → (Value.slice la Ps.length lc).ownBlock ≠ some b → b ≠ wb → (w8.setCell ⟨wb, 0, none⟩ (.slice ea (Ps.length + 1) ec)).heap[b]? = (((Y.alloc (.cells #[.slice ka c.pods.length kn, .slice ka' c.pols.length kn'] 144)).alloc (.cells #[.pointer (some ⟨tb, 0, none⟩), .pointer (some ⟨Y.heap.size, 0, none⟩)] 119)).drew).heap[b]? := fun b hb hne hw => (Below.heap_setCell _ _ _ _ hw).trans (g8.out.block b hb (fun e => hne e.symm))
    have H68 : ∀ b, w.heap.size ≤ b → b < w6.heap.size → (w8.setCell ⟨wb, 0, none⟩ (.slice ea (Ps.length + 1) ec)).heap[b]? = w6.heap[b]? := fun b hb h6 => (H8 b (by omega) (fun e => by have := hol b e; omega) (by omega)).trans ((HV b (by omega)).trans (HY6.out.block b h6))
    have H28 : ∀ b, w1.heap.size ≤ b → b < w2.heap.size → (w8.setCell ⟨wb, 0, none⟩ (.slice ea (Ps.length + 1) ec)).heap[b]? = w2.heap[b]? := fun b hb h2 => (H68 b (by omega) (by omega)).trans ((HB56.out.block b (by omega)).trans ((HB34.out.block b (by omega)).trans (HON.out.heap h2 (by omega))))
    have hse : Below 0 w8 (w8.setCell ⟨wb, 0, none⟩ (.slice ea (Ps.length + 1) ec)) := (Below.refl 0 w8).setCell (Nat.zero_le _) _
    have hsz : (w8.setCell ⟨wb, 0, none⟩ (.slice ea (Ps.length + 1) ec)).heap.size = w8.heap.size := World.size_setCell _ _ _
    have hne8 : ∀ g, (Value.slice ea (Ps.length + 1) ec).ownBlock = some g → g ≠ wb := fun g hg e => by
      rcases at8.out with h | h
      · exact hdw (h.symm.trans (hg.trans (by rw [e])))
      · rw [h, hsV] at hg; cases hg; omega
    have hb1 : ∀ g, (Value.slice ka c.pods.length kn).ownBlock = some g → tb < g ∧ g < Y.heap.size := fun g hg => by have := HK1.out.lt g hg; omega
    have hb2 : ∀ g, (Value.slice ka' c.pols.length kn').ownBlock = some g → tb < g ∧ g < Y.heap.size := fun g hg => by have := HK2.out.lt g hg; omega
    refine ⟨.slice ea (Ps.length + 1) ec, tb, Y.heap.size, k0, k1, k2, .slice ka c.pods.length kn, .slice ka' c.pols.length kn', by omega, by omega, by omega, set_blk H8W.out 0 _, ?_, ?_, (H28 tb (by omega) hlt2).trans HKT.out, ?_, hb1, hb2, ?_, ?_, ?_, ?_, ?_, ?_⟩
    · have h := own_stay (w1 := w8.setCell ⟨wb, 0, none⟩ (.slice ea (Ps.length + 1) ec)) HO8.out fun g hg => Below.heap_setCell _ _ _ _ (hne8 g hg)
      rw [List.length_append, List.flatMap_append]
      exact h
    · rcases at8.out with h | h
      · exact .inl h
      · exact .inr ⟨_, h, by omega⟩
    · refine (H8 _ (by omega) (fun e => by have := hol _ e; omega) (by omega)).trans ((show ((Y.alloc (.cells #[.slice ka c.pods.length kn, .slice ka' c.pols.length kn'] 144)).alloc (.cells #[.pointer (some ⟨tb, 0, none⟩), .pointer (some ⟨Y.heap.size, 0, none⟩)] 119)).heap[Y.heap.size]? = _ from (Below.heap_alloc _ _ _ (by rw [hsZ]; omega)).trans (?_ : (Y.alloc (.cells #[.slice ka c.pods.length kn, .slice ka' c.pols.length kn'] 144)).heap[Y.heap.size]? = _)))
      exact heap_new _ _
    · refine TabC.sub HKC.out (BSub.hide fun b hb hG => ?_) (by omega)
      have hlow := low_false.1 hG
      refine ⟨?_, H28 b (by omega) hb⟩
      simp only [Bool.or_eq_false_iff, decide_eq_false_iff_not]
      exact ⟨⟨⟨by omega, by omega⟩, fun e => by have := HK1.out.lt b e; omega⟩, fun e => by have := HK2.out.lt b e; omega⟩
    · refine ⟨own_lower (own_stay HK1.out.1 fun g hg => H68 g (by have := HK1.out.lt g hg; omega) (HK1.out.lt g hg).2) (by omega), ys, HYS.out, own_lower (own_stay HK2.out.1 fun g hg => H68 g (by have := HK2.out.lt g hg; omega) (HK2.out.lt g hg).2) (by omega), fun y hy => ?_⟩
      refine NPol.mono _ _ _ _ y (Sub.hide fun b hb hG => ?_) (by omega) (HK2.out.2 y hy)
      have hlow := (lowOr_false.1 hG).1
      refine ⟨?_, H68 b (by omega) hb⟩
      simp only [Bool.or_eq_false_iff, decide_eq_false_iff_not]
      exact ⟨⟨⟨by omega, by omega⟩, fun e => by have := HVM.out b e; omega⟩, (lowOr_false.1 hG).2⟩
    · exact hse.os.trans (g8.out.os.trans HBY.out.os)
    · exact hse.tape.trans (g8.out.tape.trans HBY.out.tape)
    · exact hse.output.trans (g8.out.output.trans HBY.out.output)
    · intro b hb h1 h2
      exact (H8 b (by omega) h2 h1).trans ((HV b (by omega)).trans (HBY.out.block b hb)))
theorem lawPick_any (c n : Int) (w : World) (hc : i64 c) (hn : 0 < n) (hn1 : n ≤ 4611686018427387904) :
    Calls Tryz.prog 50 #[.int .i64 c, .int .i64 n] w fun e w' => e = .returned (.int .i64 (pk c n)) ∧ w' = w := by
  obtain ⟨h0, h1⟩ := hc
  have hne : ¬ n = 0 := by omega
  by_cases h : c < 0
  · have HP := hid (show pk c n = (-(c + 1)) % n by rw [pk, if_pos h])
    have h2 : 0 ≤ -(c + 1) := by omega
    go_enter Tryz.func50, Tryz.ntmps50
    go_wp2
    go_ret
    refine ⟨?_, rfl⟩
    show Ending.returned (.int .i64 (-((c + 1).tmod n))) = _
    rw [HP.out, ← Int.neg_tmod, Int.tmod_eq_emod_of_nonneg h2]
  · have HP := hid (show pk c n = c % n by rw [pk, if_neg h])
    have h2 : 0 ≤ c := by omega
    go_enter Tryz.func50, Tryz.ntmps50
    go_wp2
    go_ret
    refine ⟨?_, rfl⟩
    rw [HP.out]; rfl
theorem podsOk_good {l : List DPod} (h : podsOk l) (i : Nat) : podGood l i = true := by
  unfold podGood
  split
  · rfl
  · rename_i p hp
    rw [Bool.and_eq_true, List.all_eq_true]
    refine ⟨h.1 p (List.mem_of_getElem? hp), fun q hq => ?_⟩
    obtain ⟨j, hj, rfl⟩ := List.mem_take_iff_getElem.1 hq
    obtain ⟨hi, rfl⟩ := List.getElem?_eq_some_iff.1 hp
    have := (List.pairwise_iff_getElem.1 h.2) j i (by omega) hi (by omega)
    simpa using this
theorem right_of_ok {c : DClu} (h : cluOk c) (h1 : c.pods.length ≤ 8) (h2 : c.pols.length ≤ 4) : right c = (0, 0) := right_good ⟨h1, podsOk_good h.1⟩ h2 h.2
theorem podAt_nil {l : List DPod} {ip : Int} : podAt l ip = none ↔ ∀ q ∈ l, q.ip ≠ ip := by
  unfold podAt
  rw [List.find?_eq_none]
  simp
theorem podGood_left {l : List DPod} {p : DPod} {j : Nat} (hj : j < l.length) : podGood (l ++ [p]) j = podGood l j := by
  unfold podGood
  rw [List.getElem?_append_left hj, List.take_append_of_le_length (by omega)]
theorem podGood_last {l : List DPod} {p : DPod} : podGood (l ++ [p]) l.length = (podOk p && l.all fun q => decide (q.ip ≠ p.ip)) := by
  unfold podGood
  rw [List.getElem?_append_right (Nat.le_refl _), Nat.sub_self, List.getElem?_cons_zero, List.take_left]
theorem polGood_left {l : List DPol} {p : DPol} {j : Nat} (hj : j < l.length) : polGood (l ++ [p]) j = polGood l j := by
  unfold polGood
  rw [List.getElem?_append_left hj]
theorem polGood_last {l : List DPol} {p : DPol} : polGood (l ++ [p]) l.length = polOk p := by
  unfold polGood
  rw [List.getElem?_append_right (Nat.le_refl _), Nat.sub_self, List.getElem?_cons_zero]
theorem polsOk_good {l : List DPol} (h : ∀ q ∈ l, polOk q = true) (i : Nat) : polGood l i = true := by
  unfold polGood
  split
  · rfl
  · rename_i q hq
    exact h q (List.mem_of_getElem? hq)
theorem right_addPod {c : DClu} (h : (right c).1 = 0) (p : DPod) :
    right ⟨c.pods ++ [p], c.pols⟩ = if 8 ≤ c.pods.length then (1, 0) else if podOk p = true ∧ podAt c.pods p.ip = none then (0, 0) else (2, (c.pods.length : Int)) := by
  obtain ⟨l1, l2⟩ := right_lens h
  have hc := right_zero h
  split
  · exact right_many (Or.inl (by simp; omega))
  · rename_i h8
    split
    · rename_i hp
      exact right_good (podsGood_snoc ⟨l1, podsOk_good hc.1⟩ (by omega) hp.1 (podAt_nil.1 hp.2)) l2 hc.2
    · rename_i hp
      refine right_pod (by simp; omega) (firstBad_some (fun j hj => ?_) (by simp) ?_)
      · show podGood (c.pods ++ [p]) j = true
        rw [podGood_left hj]; exact podsOk_good hc.1 j
      · show podGood (c.pods ++ [p]) c.pods.length = false
        rw [podGood_last, Bool.eq_false_iff]
        intro e
        rw [Bool.and_eq_true, List.all_eq_true] at e
        exact hp ⟨e.1, podAt_nil.2 fun q hq => by simpa using e.2 q hq⟩
theorem right_addPol {c : DClu} (h : (right c).1 = 0) (q : DPol) :
    right ⟨c.pods, c.pols ++ [q]⟩ = if 4 ≤ c.pols.length then (1, 0) else if polOk q = true then (0, 0) else (3, (c.pols.length : Int)) := by
  obtain ⟨l1, l2⟩ := right_lens h
  have hc := right_zero h
  split
  · exact right_many (Or.inr (by simp; omega))
  · rename_i h8
    split
    · rename_i hp
      exact right_good ⟨l1, podsOk_good hc.1⟩ (by simp; omega) fun x hx => by
        rcases List.mem_append.1 hx with hx | hx
        · exact hc.2 x hx
        · rw [List.mem_singleton] at hx; subst hx; exact hp
    · rename_i hp
      refine right_pol (by simp; omega) (firstBad_none fun j _ => podsOk_good hc.1 j) (firstBad_some (fun j hj => ?_) (by simp) ?_)
      · show polGood (c.pols ++ [q]) j = true
        rw [polGood_left hj]; exact polsOk_good hc.2 j
      · show polGood (c.pols ++ [q]) c.pols.length = false
        rw [polGood_last]; simpa using hp
theorem right_dropPod {c : DClu} (h : (right c).1 = 0) (f : DPod → Bool) : right ⟨c.pods.filter f, c.pols⟩ = (0, 0) := by
  obtain ⟨l1, l2⟩ := right_lens h
  have hc := right_zero h
  exact right_of_ok ⟨⟨fun p hp => hc.1.1 p (List.mem_filter.1 hp).1, hc.1.2.filter f⟩, hc.2⟩ (Nat.le_trans (List.length_filter_le _ _) l1) l2
theorem right_dropPol {c : DClu} (h : (right c).1 = 0) (i : Nat) : right ⟨c.pods, c.pols.take i ++ c.pols.drop (i + 1)⟩ = (0, 0) := by
  obtain ⟨l1, l2⟩ := right_lens h
  have hc := right_zero h
  refine right_of_ok ⟨hc.1, fun q hq => ?_⟩ l1 (by simp; omega)
  rcases List.mem_append.1 hq with hq | hq
  · exact hc.2 q (List.mem_of_mem_take hq)
  · exact hc.2 q (List.mem_of_mem_drop hq)
theorem drop_filter {l : List DPod} {k : Nat} {p : DPod} (h : l.Pairwise fun a b => a.ip ≠ b.ip) (hk : l[k]? = some p) : l.take k ++ l.drop (k + 1) = l.filter fun q => decide (q.ip ≠ p.ip) := by
  obtain ⟨hl, hp⟩ := List.getElem?_eq_some_iff.1 hk
  have e : l = l.take k ++ p :: l.drop (k + 1) := by rw [← hp, List.getElem_cons_drop, List.take_append_drop]
  have h2 := h
  rw [e] at h2
  rw [List.pairwise_append, List.pairwise_cons] at h2
  obtain ⟨_, ⟨h3, _⟩, h4⟩ := h2
  have e1 : (l.take k).filter (fun q => decide (q.ip ≠ p.ip)) = l.take k := List.filter_eq_self.2 fun q hq => by simpa using h4 q hq p (by simp)
  have e2 : (l.drop (k + 1)).filter (fun q => decide (q.ip ≠ p.ip)) = l.drop (k + 1) := List.filter_eq_self.2 fun q hq => by simpa using fun e => h3 q hq e.symm
  conv => rhs; rw [e]
  rw [List.filter_append, List.filter_cons, e1, e2]
  simp
end Go.Proofs.YtmkjlhplgcifiaaGreat
