/-
  palisadelaw: World.compiled, walked: a cluster that is right.
  palisadelaw: pick, walked.
  palisadelaw: the state of a script's world.
-/
import Derived.Test.YtmkjlhplgcifiaaGreatN38
import Derived.Test.YtmkjlhplgcifiaaGreatN09
import Derived.Deep.RegionLaw
namespace Go.Proofs.YtmkjlhplgcifiaaGreat
open Go.ChangeShapes Go.WideShapes Go.ChangeAt Go.RowKit
attribute [local simp] World.cell?_grow
attribute [local go_sem] World.cell?_grow
attribute [local simp] World.cell?_alloc_there
attribute [local go_sem] World.cell?_alloc_there
attribute [local go_sem] eqg_blk std_blk eqg_pod std_pod eqg_sel std_sel eqg_prt std_prt
attribute [local go_sem ↓] eql_blk eql_sel neq_sel eql_prt eql_pod
attribute [local go_sem ↓] met_in1 met_in2 met_re1 met_re2
attribute [local go_sem ↓] met_has1 met_has2
attribute [local go_sem ↓] met_bl1 met_bl2
attribute [local go_sem] eqg_row std_row
attribute [local go_sem ↓] neq_row
set_option linter.unusedVariables false
set_option linter.unusedSimpArgs false
/-- the places of tables, and of the document's -/
def encPair (p : Nat × Nat) : List Value := [.pointer (some ⟨p.1, 0, none⟩), .pointer (some ⟨p.2, 0, none⟩)]
/-- what a Compile that succeeds leaves: one pair more; what its tables and the document's cluster hold lies between their two blocks -/
def CompiledOk (wb B : Nat) (vl vd : Value) (Ps : List (Nat × Nat)) (c : DClu) (w w' : World) : Prop :=
  ∃ (vl' : Value) (tb rb : Nat) (u0 u1 u2 v v' : Value), w.heap.size ≤ tb ∧ tb < rb ∧ rb < w'.heap.size ∧ w'.heap[wb]? = some (.cells #[vl', vd] 85 (0, 0)) ∧ w'.ownsRow B 119 2 vl' (Ps ++ [(tb, rb)]).length ((Ps ++ [(tb, rb)]).flatMap encPair) ∧
    (vl'.ownBlock = vl.ownBlock ∨ ∃ g, vl'.ownBlock = some g ∧ rb < g) ∧ w'.heap[tb]? = some (.cells #[u0, u1, u2] 94 (0, 0)) ∧ w'.heap[rb]? = some (.cells #[v, v'] 144 (0, 0)) ∧
    TabC w'.heap.size (hide w' (fun b => decide (b ≤ tb) || decide (rb ≤ b))) u0 u1 u2 c ∧ RdClu w'.heap.size (hide w' (fun b => decide (b ≤ tb) || decide (rb ≤ b))) v v' c ∧
    w'.os = w.os ∧ w'.tape = w.tape ∧ w'.output = w.output ∧ ∀ b, b < w.heap.size → b ≠ wb → vl.ownBlock ≠ some b → w'.heap[b]? = w.heap[b]?
theorem heap_new (w : World) (o : Obj) : (w.alloc o).heap[w.heap.size]? = some o := by simp [- World.alloc_eq, World.alloc]
theorem right_zero2 {c : DClu} (h : (right c).1 = 0) : (right c).2 = 0 := by
  unfold right at h ⊢
  by_cases h1 : 8 < c.pods.length ∨ 4 < c.pols.length
  · rw [if_pos h1]
  · rw [if_neg h1] at h ⊢
    revert h
    cases firstBad (podGood c.pods) c.pods.length <;> cases firstBad (polGood c.pols) c.pols.length <;> simp
theorem info_pair : (Tryz.prog.info? 119).map (fun i => (i.zero, i.size, i.bytes)) = some (some (.agg #[.pointer none, .pointer none]), 2, 16) := by kernel_rfl
set_option maxRecDepth 100000 in
set_option maxHeartbeats 4000000 in
theorem compiled_ok (wb B : Nat) (vl vd : Value) (Ps : List (Nat × Nat)) (c : DClu) (pa qa : Option Addr) (pc qc : Nat) (w : World) (hp : rdPods w.heap.size w pa c.pods) (hq : rdPols w.heap.size w qa c.pols) (hr : (right c).1 = 0)
    (hblk : w.heap[wb]? = some (.cells #[vl, vd] 85 (0, 0))) (hol : w.ownsRow B 119 2 vl Ps.length (Ps.flatMap encPair)) (hBw : B ≤ wb) (hPl : (Ps.length + 1) * 16 ≤ 140737488355328) :
    Calls Tryz.prog 49 #[.pointer (some ⟨wb, 0, none⟩), .agg #[.slice pa c.pods.length pc, .slice qa c.pols.length qc]] w fun e w' => e = .returned (.bool true) ∧ CompiledOk wb B vl vd Ps c w w' := by
  have HBLK := hid hblk
  have HOL := hid hol
  obtain ⟨la, lc, hvl, hlc, _⟩ := own_slice hol
  subst hvl
  clear hblk hol
  have HP := hid hp
  have HQ := hid hq
  clear hp hq
  go_enter Tryz.func49, Tryz.ntmps49
  go_wp2_with fail
  generalize hW : w.alloc (Obj.cells #[.slice pa c.pods.length pc, .slice qa c.pols.length qc] 28) = W
  have hsW : W.heap.size = w.heap.size + 1 := by rw [← hW]; simp
  have HBW := hid (show Below w.heap.size w W from by rw [← hW]; exact (by repeat (first | exact Below.refl _ _ | assumption | apply Ext.alloc | apply Ext.drewN | apply Ext.drew | refine Ext.trans ?_ (by assumption))))
  have a4 : W.cell? ⟨w.heap.size, 0, none⟩ = some (.slice pa c.pods.length pc) := by rw [← hW]; simp [go_sem]
  have a5 : W.cell? ⟨w.heap.size, 1, none⟩ = some (.slice qa c.pols.length qc) := by rw [← hW]; simp [go_sem]
  clear hW
  refine (lent_any c pa qa pc qc W (rdPods.to HP.out HBW.out) (rdPols.to HQ.out HBW.out)).mono ?_
  rintro e w1 ⟨m, sa, sn, sc, ta, tn, tc, rfl, hm1, hm2, hl1, hl2, hb1⟩
  obtain ⟨ss, cc, e1, hcc, hr1⟩ := hl1.rd HP.out.1 (B := w1.heap.size) hm2
  obtain ⟨tt, dd, e2, hr2⟩ := hl2.rd HQ.out (B := w1.heap.size) (Nat.le_refl _)
  cases e1
  cases e2
  have HL1 := hid hl1
  have HL2 := hid hl2
  have HR1 := hid hr1
  have HR2 := hid hr2
  have HB1 := hid hb1
  have hs1 := hb1.size
  have b4 : ∀ o, (w1.alloc o).cell? ⟨w.heap.size, 0, none⟩ = some (.slice pa c.pods.length pc) := fun o => cell_past (cell_to a4 hb1)
  have b5 : ∀ o, (w1.alloc o).cell? ⟨w.heap.size, 1, none⟩ = some (.slice qa c.pols.length qc) := fun o => cell_past (cell_to a5 hb1)
  clear hl1 hl2 hr1 hr2 hb1 a4 a5
  go_wp2_with fail
  generalize hX : w1.alloc (Obj.cells #[.slice sa c.pods.length sc, .slice ta c.pols.length tc] 28) = X
  have hsX : X.heap.size = w1.heap.size + 1 := by rw [← hX]; simp
  have HBX := hid (show Below w1.heap.size w1 X from by rw [← hX]; exact (by repeat (first | exact Below.refl _ _ | assumption | apply Ext.alloc | apply Ext.drewN | apply Ext.drew | refine Ext.trans ?_ (by assumption))))
  have h0 : X.cell? ⟨w1.heap.size, 0, none⟩ = some (.slice sa c.pods.length sc) := by rw [← hX]; simp [go_sem]
  have h1 : X.cell? ⟨w1.heap.size, 1, none⟩ = some (.slice ta c.pols.length tc) := by rw [← hX]; simp [go_sem]
  have q4 : X.cell? ⟨w.heap.size, 0, none⟩ = some (.slice pa c.pods.length pc) := by rw [← hX]; exact b4 _
  have q5 : X.cell? ⟨w.heap.size, 1, none⟩ = some (.slice qa c.pols.length qc) := by rw [← hX]; exact b5 _
  clear hX b4 b5
  refine (compile_ok c sa ta sc tc X (rdPods.ext HBX.out (by omega) HR1.out) (rdPols.ext HBX.out (by omega) HR2.out) hcc hr).mono ?_
  rintro e w2 ⟨⟨tb, rfl, htb, k0, k1, k2, hkt, hkc⟩, hb2⟩
  have HKT := hid hkt
  have HKC := hid hkc
  have hr2 : right c = (0, (right c).2) := by rw [← hr]
  have hr3 : (right c).2 = 0 := right_zero2 hr
  clear hkt hkc hr2
  have HB2 := hid hb2
  have hs2 := hb2.size
  have i0 := cell_to h0 hb2
  have i1 := cell_to h1 hb2
  have r4 := cell_to q4 hb2
  have r5 := cell_to q5 hb2
  have HB12 := hid (Ext.trans HBX.out hb2)
  clear hb2 h0 h1 q4 q5
  go_wp2_with fail
  have hBB : Below w.heap.size w w2 := Ext.trans (Ext.trans HBW.out HB1.out) HB12.out
  refine (back_any c pa qa pc qc sa ta c.pods.length sc c.pols.length tc w.heap.size W.heap.size m w1.heap.size w2 (rdPods.ext hBB (Nat.le_refl _) HP.out) (rdPols.ext hBB (Nat.le_refl _) HQ.out) (by omega) hm1 hm2 HB12.out.size (HL1.out.heap fun j x1 x2 => HB12.out.block j (by omega)) (lnPols.fwd (B := w.heap.size) (rdPols.ext HBW.out (Nat.le_refl _) HQ.out) ((Ext.trans HB1.out HB12.out).mono (by omega)) (HL2.out.heap fun j x1 x2 => HB12.out.block j (by omega)))).mono ?_
  rintro e w3 ⟨rfl, hon⟩
  have hB3 : Below w.heap.size w w3 := hBB.trans (hon.below (by omega) (by omega))
  have hs3 := hon.2.1
  have u4 := hon.cell r4 (by omega)
  have u5 := hon.cell r5 (by omega)
  have HON := hid hon
  clear i0 i1 hon r4 r5
  go_wp2_with fail
  refine (refRight_any c pa qa pc qc w3 (rdPods.to HP.out hB3) (rdPols.to HQ.out hB3)).mono ?_
  rintro e w4 ⟨rfl, hb4⟩
  have HB4 := hid (Ext.trans hB3 hb4)
  have HB34 := hid hb4
  have v4 := cell_to u4 hb4
  have v5 := cell_to u5 hb4
  clear hb4 u4 u5
  have hg1 : (right c).1 = 0 := hr
  rw [hr, hr3]
  clear hr hr3 hg1
  go_wp2_with fail
  refine (num_any 0 _).mono ?_
  rintro e w5 ⟨rfl, rfl⟩
  go_wp2_with fail
  refine (copied_any c pa qa pc qc w5 (rdPods.to HP.out HB4.out) (rdPols.to HQ.out HB4.out)).mono ?_
  rintro e w6 ⟨⟨v, v', rfl, hcl⟩, hb6⟩
  obtain ⟨ka, kn, ka', kn', rfl, rfl, hk1, hk2⟩ := hcl
  have HK1 := hid hk1
  have HK2 := hid hk2
  have HB6 := hid (Ext.trans HB4.out hb6)
  have HB56 := hid hb6
  have q0 : w6.cell? ⟨wb, 0, none⟩ = some (.slice la Ps.length lc) := (blk_cell ((HB6.out.block wb (Array.getElem?_eq_some_iff.1 HBLK.out).1).trans HBLK.out) 0).trans rfl
  have qf := blk_frozen ((HB6.out.block wb (Array.getElem?_eq_some_iff.1 HBLK.out).1).trans HBLK.out)
  have hs6 := HB6.out.size
  have hwb := (Array.getElem?_eq_some_iff.1 HBLK.out).1
  have HQB := hid ((HB6.out.block wb (Array.getElem?_eq_some_iff.1 HBLK.out).1).trans HBLK.out)
  clear hk1 hk2 hb6 v4 v5 HL1 HL2 HR1 HR2
  go_upto_region 9 with fail
  have y0 : (w6.alloc (.cells #[.slice ka c.pods.length kn, .slice ka' c.pols.length kn'] 28)).cell? ⟨w6.heap.size, 0, none⟩ = some (.slice ka c.pods.length kn) := by simp [go_sem]
  have y1 : (w6.alloc (.cells #[.slice ka c.pods.length kn, .slice ka' c.pols.length kn'] 28)).cell? ⟨w6.heap.size, 1, none⟩ = some (.slice ka' c.pols.length kn') := by simp [go_sem]
  have y2 : (w6.alloc (.cells #[.slice ka c.pods.length kn, .slice ka' c.pols.length kn'] 28)).cell? ⟨wb, 0, none⟩ = some (.slice la Ps.length lc) := cell_past q0
  have y3 : (w6.alloc (.cells #[.slice ka c.pods.length kn, .slice ka' c.pols.length kn'] 28)).heap[wb]? = some (.cells #[.slice la Ps.length lc, vd] 85 (0, 0)) := (Below.heap_alloc _ _ _ (by omega)).trans HQB.out
  have hsY : (w6.alloc (.cells #[.slice ka c.pods.length kn, .slice ka' c.pols.length kn'] 28)).heap.size = w6.heap.size + 1 := World.size_alloc _ _
  have hbY : Below w.heap.size w (w6.alloc (.cells #[.slice ka c.pods.length kn, .slice ka' c.pols.length kn'] 28)) := Ext.trans HB6.out (by repeat (first | exact Below.refl _ _ | assumption | apply Ext.alloc | apply Ext.drewN | apply Ext.drew | refine Ext.trans ?_ (by assumption)))
  have hy6 : Below w6.heap.size w6 (w6.alloc (.cells #[.slice ka c.pods.length kn, .slice ka' c.pols.length kn'] 28)) := (by repeat (first | exact Below.refl _ _ | assumption | apply Ext.alloc | apply Ext.drewN | apply Ext.drew | refine Ext.trans ?_ (by assumption)))
  generalize (w6.alloc (.cells #[.slice ka c.pods.length kn, .slice ka' c.pols.length kn'] 28)) = Y at y0 y1 y2 y3 hsY hbY hy6 ⊢
  have y4 := blk_frozen y3
  have HY3 := hid y3
  have HBY := hid hbY
  have HOLY := hid (own_to HOL.out hbY)
  have hYs : w.heap.size ≤ Y.heap.size := by omega
  have hY6 : w6.heap.size < Y.heap.size := by omega
  have HSY := hid hsY
  have HY6 := hid hy6
  clear q0 qf y3 hbY hsY hy6
  have hdw : (Value.slice la Ps.length lc).ownBlock ≠ some wb := fun e => by
    obtain ⟨_, ⟨h, _⟩ | ⟨g, cap, cur, h, _, hg, _⟩⟩ := HOL.out
    · rw [h] at e; cases e
    · rw [h] at e
      have e2 : g = wb := by simpa [Value.ownBlock] using e
      rw [e2, HBLK.out] at hg
      cases hg
  have hsZ : (Y.alloc (.cells #[.slice ka c.pods.length kn, .slice ka' c.pols.length kn'] 144)).heap.size = Y.heap.size + 1 := World.size_alloc _ _
  have hsV : (((Y.alloc (.cells #[.slice ka c.pods.length kn, .slice ka' c.pols.length kn'] 144)).alloc (.cells #[.pointer (some ⟨tb, 0, none⟩), .pointer (some ⟨Y.heap.size, 0, none⟩)] 119)).drew).heap.size = Y.heap.size + 2 := (show ((Y.alloc (.cells #[.slice ka c.pods.length kn, .slice ka' c.pols.length kn'] 144)).alloc (.cells #[.pointer (some ⟨tb, 0, none⟩), .pointer (some ⟨Y.heap.size, 0, none⟩)] 119)).heap.size = Y.heap.size + 2 from (World.size_alloc _ _).trans (by rw [hsZ]))
  have HNW := hid (show ∀ (j : Nat) (u : Value), [.pointer (some ⟨tb, 0, none⟩), .pointer (some ⟨Y.heap.size, 0, none⟩)][j]? = some u → (((Y.alloc (.cells #[.slice ka c.pods.length kn, .slice ka' c.pols.length kn'] 144)).alloc (.cells #[.pointer (some ⟨tb, 0, none⟩), .pointer (some ⟨Y.heap.size, 0, none⟩)] 119)).drew).cell? ((⟨Y.heap.size + 1, 0, none⟩ : Addr).add j) = some u from (show ∀ (j : Nat) (u : Value), [.pointer (some ⟨tb, 0, none⟩), .pointer (some ⟨Y.heap.size, 0, none⟩)][j]? = some u → ((Y.alloc (.cells #[.slice ka c.pods.length kn, .slice ka' c.pols.length kn'] 144)).alloc (.cells #[.pointer (some ⟨tb, 0, none⟩), .pointer (some ⟨Y.heap.size, 0, none⟩)] 119)).cell? ((⟨Y.heap.size + 1, 0, none⟩ : Addr).add j) = some u from by rw [← hsZ]; exact cell_new_list (Y.alloc (.cells #[.slice ka c.pods.length kn, .slice ka' c.pols.length kn'] 144)) [.pointer (some ⟨tb, 0, none⟩), .pointer (some ⟨Y.heap.size, 0, none⟩)] _))
  have HOLV := hid (show (((Y.alloc (.cells #[.slice ka c.pods.length kn, .slice ka' c.pols.length kn'] 144)).alloc (.cells #[.pointer (some ⟨tb, 0, none⟩), .pointer (some ⟨Y.heap.size, 0, none⟩)] 119)).drew).ownsRow B 119 2 (.slice la Ps.length lc) Ps.length (Ps.flatMap encPair) from (show ((Y.alloc (.cells #[.slice ka c.pods.length kn, .slice ka' c.pols.length kn'] 144)).alloc (.cells #[.pointer (some ⟨tb, 0, none⟩), .pointer (some ⟨Y.heap.size, 0, none⟩)] 119)).ownsRow B 119 2 (.slice la Ps.length lc) Ps.length (Ps.flatMap encPair) from (HOLY.out.alloc _).alloc _))
  have HVW := hid (show (((Y.alloc (.cells #[.slice ka c.pods.length kn, .slice ka' c.pols.length kn'] 144)).alloc (.cells #[.pointer (some ⟨tb, 0, none⟩), .pointer (some ⟨Y.heap.size, 0, none⟩)] 119)).drew).heap[wb]? = some (.cells #[.slice la Ps.length lc, vd] 85 (0, 0)) from (show ((Y.alloc (.cells #[.slice ka c.pods.length kn, .slice ka' c.pols.length kn'] 144)).alloc (.cells #[.pointer (some ⟨tb, 0, none⟩), .pointer (some ⟨Y.heap.size, 0, none⟩)] 119)).heap[wb]? = some (.cells #[.slice la Ps.length lc, vd] 85 (0, 0)) from (Below.heap_alloc _ _ _ (by rw [hsZ]; omega)).trans ((Below.heap_alloc _ _ _ (by omega)).trans HY3.out)))
  obtain ⟨ip0, hip, ipz0, ipz1, ipz2⟩ := info_parts info_pair
  go_region_law (refine step_append_at (((Y.alloc (.cells #[.slice ka c.pods.length kn, .slice ka' c.pols.length kn'] 144)).alloc (.cells #[.pointer (some ⟨tb, 0, none⟩), .pointer (some ⟨Y.heap.size, 0, none⟩)] 119)).drew) (by rfl) (.tmp 57) (.tmp 63) 80 (by rfl) B 119 ip0 _ 2 16 Tryz.underlying80 hip ipz0 ipz1 ipz2 rfl (by decide) _ _ _ (by rfl) HOLV.out ⟨Y.heap.size + 1, 0, none⟩ 1 1 [.pointer (some ⟨tb, 0, none⟩), .pointer (some ⟨Y.heap.size, 0, none⟩)] (by first | rfl | simp [Act.eval, Act.put, hsZ]) rfl HNW.out (by intro u hu; simp only [List.mem_cons, List.not_mem_nil, or_false] at hu; rcases hu with rfl | rfl <;> rfl) (by unfold maxLen; omega) hPl (by omega) ?_; intro vl' w8 hown8 hg8 hat8; have HG8 := hid hg8; have HAT8 := hid hat8; have HO8 := hid hown8; have h8w : w8.heap[wb]? = some (.cells #[.slice la Ps.length lc, vd] 85 (0, 0)) := (hg8.block wb (by omega) (fun e => hdw e.symm)).trans HVW.out; have q8 : w8.cell? ⟨wb, 0, none⟩ = some (.slice la Ps.length lc) := (blk_cell h8w 0).trans rfl; have qf8 := blk_frozen h8w; have H8W := hid h8w; obtain ⟨ea, ec, hvl', _, _⟩ := own_slice hown8; subst hvl'; clear hown8 hg8 hat8 h8w)
  all_goals (
    go_wp2
    go_ret
    refine ⟨rfl, ?_⟩
    have g8 := hid (show (((Y.alloc (.cells #[.slice ka c.pods.length kn, .slice ka' c.pols.length kn'] 144)).alloc (.cells #[.pointer (some ⟨tb, 0, none⟩), .pointer (some ⟨Y.heap.size, 0, none⟩)] 119)).drew).grownBy w8 (Value.slice la Ps.length lc).ownBlock from HG8.out)
    have at8 := hid (show (Value.slice ea (Ps.length + 1) ec).ownBlock = (Value.slice la Ps.length lc).ownBlock ∨ (Value.slice ea (Ps.length + 1) ec).ownBlock = some (((Y.alloc (.cells #[.slice ka c.pods.length kn, .slice ka' c.pols.length kn'] 144)).alloc (.cells #[.pointer (some ⟨tb, 0, none⟩), .pointer (some ⟨Y.heap.size, 0, none⟩)] 119)).drew).heap.size from HAT8.out)
    have hlt2 : tb < w2.heap.size := (Array.getElem?_eq_some_iff.1 HKT.out).1
    have h35 := HB34.out.size
    have h56 := HB56.out.size
    have hs8 := g8.out.size
    have hol : ∀ g, (Value.slice la Ps.length lc).ownBlock = some g → g < w.heap.size := fun g hg => (HOL.out.lt g hg).2
    have HV : ∀ b, b < Y.heap.size → (((Y.alloc (.cells #[.slice ka c.pods.length kn, .slice ka' c.pols.length kn'] 144)).alloc (.cells #[.pointer (some ⟨tb, 0, none⟩), .pointer (some ⟨Y.heap.size, 0, none⟩)] 119)).drew).heap[b]? = Y.heap[b]? := fun b hb => (show ((Y.alloc (.cells #[.slice ka c.pods.length kn, .slice ka' c.pols.length kn'] 144)).alloc (.cells #[.pointer (some ⟨tb, 0, none⟩), .pointer (some ⟨Y.heap.size, 0, none⟩)] 119)).heap[b]? = Y.heap[b]? from (Below.heap_alloc _ _ _ (by rw [hsZ]; omega)).trans (Below.heap_alloc _ _ _ hb))
    have H8 : ∀ b, b < (((Y.alloc (.cells #[.slice ka c.pods.length kn, .slice ka' c.pols.length kn'] 144)).alloc (.cells #[.pointer (some ⟨tb, 0, none⟩), .pointer (some ⟨Y.heap.size, 0, none⟩)] 119)).drew).heap.size → (Value.slice la Ps.length lc).ownBlock ≠ some b → b ≠ wb → (w8.setCell ⟨wb, 0, none⟩ (.slice ea (Ps.length + 1) ec)).heap[b]? = (((Y.alloc (.cells #[.slice ka c.pods.length kn, .slice ka' c.pols.length kn'] 144)).alloc (.cells #[.pointer (some ⟨tb, 0, none⟩), .pointer (some ⟨Y.heap.size, 0, none⟩)] 119)).drew).heap[b]? := fun b hb hne hw => (Below.heap_setCell _ _ _ _ hw).trans (g8.out.block b hb (fun e => hne e.symm))
    have H68 : ∀ b, w.heap.size ≤ b → b < w6.heap.size → (w8.setCell ⟨wb, 0, none⟩ (.slice ea (Ps.length + 1) ec)).heap[b]? = w6.heap[b]? := fun b hb h6 => (H8 b (by omega) (fun e => by have := hol b e; omega) (by omega)).trans ((HV b (by omega)).trans (HY6.out.block b h6))
    have H28 : ∀ b, w1.heap.size ≤ b → b < w2.heap.size → (w8.setCell ⟨wb, 0, none⟩ (.slice ea (Ps.length + 1) ec)).heap[b]? = w2.heap[b]? := fun b hb h2 => (H68 b (by omega) (by omega)).trans ((HB56.out.block b (by omega)).trans ((HB34.out.block b (by omega)).trans (HON.out.heap h2 (by omega))))
    have hse : Below 0 w8 (w8.setCell ⟨wb, 0, none⟩ (.slice ea (Ps.length + 1) ec)) := (Below.refl 0 w8).setCell (Nat.zero_le _) _
    have hsz : (w8.setCell ⟨wb, 0, none⟩ (.slice ea (Ps.length + 1) ec)).heap.size = w8.heap.size := World.size_setCell _ _ _
    have hne8 : ∀ g, (Value.slice ea (Ps.length + 1) ec).ownBlock = some g → g ≠ wb := fun g hg e => by
      rcases at8.out with h | h
      · exact hdw (h.symm.trans (hg.trans (by rw [e])))
      · rw [h, hsV] at hg; cases hg; omega
    refine ⟨.slice ea (Ps.length + 1) ec, tb, Y.heap.size, k0, k1, k2, .slice ka c.pods.length kn, .slice ka' c.pols.length kn', by omega, by omega, by omega, set_blk H8W.out 0 _, ?_, ?_, (H28 tb (by omega) hlt2).trans HKT.out, ?_, ?_, ?_, ?_, ?_, ?_, ?_⟩
    · have h := own_stay (w1 := w8.setCell ⟨wb, 0, none⟩ (.slice ea (Ps.length + 1) ec)) HO8.out fun g hg => Below.heap_setCell _ _ _ _ (hne8 g hg)
      rw [List.length_append, List.flatMap_append]
      exact h
    · rcases at8.out with h | h
      · exact .inl h
      · exact .inr ⟨_, h, by omega⟩
    · refine (H8 _ (by omega) (fun e => by have := hol _ e; omega) (by omega)).trans ((show ((Y.alloc (.cells #[.slice ka c.pods.length kn, .slice ka' c.pols.length kn'] 144)).alloc (.cells #[.pointer (some ⟨tb, 0, none⟩), .pointer (some ⟨Y.heap.size, 0, none⟩)] 119)).heap[Y.heap.size]? = _ from (Below.heap_alloc _ _ _ (by rw [hsZ]; omega)).trans (?_ : (Y.alloc (.cells #[.slice ka c.pods.length kn, .slice ka' c.pols.length kn'] 144)).heap[Y.heap.size]? = _)))
      exact heap_new _ _
    · refine TabC.sub HKC.out (BSub.hide fun b hb hG => ?_) (by omega)
      have hlow := low_false.1 hG
      exact ⟨by simp only [Bool.or_eq_false_iff, decide_eq_false_iff_not]; omega, H28 b (by omega) hb⟩
    · have hsub : Sub (hide w6 (low w5.heap.size)) (hide (w8.setCell ⟨wb, 0, none⟩ (.slice ea (Ps.length + 1) ec)) (fun b => decide (b ≤ tb) || decide (Y.heap.size ≤ b))) := Sub.hide fun b hb hG => by
        have hlow := low_false.1 hG
        exact ⟨by simp only [Bool.or_eq_false_iff, decide_eq_false_iff_not]; omega, H68 b (by omega) hb⟩
      exact ⟨_, _, _, _, rfl, rfl, rdPods.sub hsub (by omega) HK1.out, rdPols.sub hsub (by omega) HK2.out⟩
    · exact hse.os.trans (g8.out.os.trans HBY.out.os)
    · exact hse.tape.trans (g8.out.tape.trans HBY.out.tape)
    · exact hse.output.trans (g8.out.output.trans HBY.out.output)
    · intro b hb h1 h2
      exact (H8 b (by omega) h2 h1).trans ((HV b (by omega)).trans (HBY.out.block b hb)))
end Go.Proofs.YtmkjlhplgcifiaaGreat
namespace Go.Proofs.YtmkjlhplgcifiaaGreat
open Go.ChangeShapes Go.WideShapes Go.ChangeAt Go.RowKit
attribute [local simp] World.cell?_grow
attribute [local go_sem] World.cell?_grow
attribute [local simp] World.cell?_alloc_there
attribute [local go_sem] World.cell?_alloc_there
attribute [local go_sem] eqg_blk std_blk eqg_pod std_pod eqg_sel std_sel eqg_prt std_prt
attribute [local go_sem ↓] eql_blk eql_sel neq_sel eql_prt eql_pod
attribute [local go_sem ↓] met_in1 met_in2 met_re1 met_re2
attribute [local go_sem ↓] met_has1 met_has2
attribute [local go_sem ↓] met_bl1 met_bl2
attribute [local go_sem] eqg_row std_row
attribute [local go_sem ↓] neq_row
set_option linter.unusedVariables false
set_option linter.unusedSimpArgs false
theorem lawPick_any (c n : Int) (w : World) (hc : i64 c) (hn : 0 < n) (hn1 : n ≤ 4611686018427387904) :
    Calls Tryz.prog 50 #[.int .i64 c, .int .i64 n] w fun e w' => e = .returned (.int .i64 (pk c n)) ∧ w' = w := by
  obtain ⟨h0, h1⟩ := hc
  have hne : ¬ n = 0 := by omega
  by_cases h : c < 0
  · have HP := hid (show pk c n = (-(c + 1)) % n by rw [pk, if_pos h])
    have h2 : 0 ≤ -(c + 1) := by omega
    go_enter Tryz.func50, Tryz.ntmps50
    go_wp2
    go_ret
    refine ⟨?_, rfl⟩
    show Ending.returned (.int .i64 (-((c + 1).tmod n))) = _
    rw [HP.out, ← Int.neg_tmod, Int.tmod_eq_emod_of_nonneg h2]
  · have HP := hid (show pk c n = c % n by rw [pk, if_neg h])
    have h2 : 0 ≤ c := by omega
    go_enter Tryz.func50, Tryz.ntmps50
    go_wp2
    go_ret
    refine ⟨?_, rfl⟩
    rw [HP.out]; rfl
end Go.Proofs.YtmkjlhplgcifiaaGreat
namespace Go.Proofs.YtmkjlhplgcifiaaGreat
open Go.ChangeShapes Go.WideShapes Go.ChangeAt Go.RowKit
attribute [local simp] World.cell?_grow
attribute [local go_sem] World.cell?_grow
attribute [local simp] World.cell?_alloc_there
attribute [local go_sem] World.cell?_alloc_there
attribute [local go_sem] eqg_blk std_blk eqg_pod std_pod eqg_sel std_sel eqg_prt std_prt
attribute [local go_sem ↓] eql_blk eql_sel neq_sel eql_prt eql_pod
attribute [local go_sem ↓] met_in1 met_in2 met_re1 met_re2
attribute [local go_sem ↓] met_has1 met_has2
attribute [local go_sem ↓] met_bl1 met_bl2
attribute [local go_sem] eqg_row std_row
attribute [local go_sem ↓] neq_row
set_option linter.unusedVariables false
set_option linter.unusedSimpArgs false
/-- tables and the document's: where they lie, and of which cluster -/
structure DPair where
  tb : Nat
  rb : Nat
  c : DClu
def DPair.at (p : DPair) : Nat × Nat := (p.tb, p.rb)
/-- the blocks of a script's world that are written again -/
def GSt (wb : Nat) (vl vd : Value) (Ps : List DPair) : Nat → Bool := fun b => decide (b = wb) || decide (vl.ownBlock = some b) || decide (vd.ownBlock = some b) || Ps.any (fun p => decide (p.tb = b) || decide (p.rb = b))
theorem GSt_false {wb : Nat} {vl vd : Value} {Ps : List DPair} {b : Nat} : GSt wb vl vd Ps b = false ↔ b ≠ wb ∧ vl.ownBlock ≠ some b ∧ vd.ownBlock ≠ some b ∧ ∀ p ∈ Ps, p.tb ≠ b ∧ p.rb ≠ b := by
  simp [GSt, and_assoc]
/-- one pair, its contents read where nothing is written again -/
def PairOk (w : World) (G : Nat → Bool) (p : DPair) : Prop :=
  (right p.c).1 = 0 ∧ ∃ u0 u1 u2 v v', w.heap[p.tb]? = some (.cells #[u0, u1, u2] 94 (0, 0)) ∧ w.heap[p.rb]? = some (.cells #[v, v'] 144 (0, 0)) ∧ TabC w.heap.size (hide w G) u0 u1 u2 p.c ∧ RdClu w.heap.size (hide w G) v v' p.c
theorem PairOk.to {w w' : World} {G G' : Nat → Bool} {p : DPair} (h : PairOk w G p) (hs : w.heap.size ≤ w'.heap.size) (ht : w'.heap[p.tb]? = w.heap[p.tb]?) (hr : w'.heap[p.rb]? = w.heap[p.rb]?) (hb : ∀ b, b < w.heap.size → G b = false → G' b = false ∧ w'.heap[b]? = w.heap[b]?) : PairOk w' G' p := by
  obtain ⟨h0, u0, u1, u2, v, v', h1, h2, h3, a, n, a', n', h4, h5, h6, h7⟩ := h
  exact ⟨h0, u0, u1, u2, v, v', ht.trans h1, hr.trans h2, h3.sub (BSub.hide hb) hs, a, n, a', n', h4, h5, rdPods.sub (Sub.hide hb) hs h6, rdPols.sub (Sub.hide hb) hs h7⟩
/-- the state of a script's world -/
def St (wb B : Nat) (vl vd : Value) (Ps : List DPair) (Ds : List DSl) (w : World) : Prop :=
  (B ≤ wb ∧ Ds.length % 4 = 0) ∧ w.heap[wb]? = some (.cells #[vl, vd] 85 (0, 0)) ∧ w.ownsRow B 119 2 vl (Ps.map DPair.at).length ((Ps.map DPair.at).flatMap encPair) ∧ w.ownsRow B 40 1 vd Ds.length (Ds.flatMap encSl) ∧
    (∀ p ∈ Ps, PairOk w (GSt wb vl vd Ps) p) ∧ ∀ k d, Ds[k]? = some d → d.n ≤ 20003 ∧ w.ownsRow B 49 8 (.slice d.a d.n d.c) d.n (marks (markRow k) d.n)
/-- memory grows -/
theorem St.grow {wb B : Nat} {vl vd : Value} {Ps : List DPair} {Ds : List DSl} {w w' : World} (h : St wb B vl vd Ps Ds w) (hb : Below w.heap.size w w') : St wb B vl vd Ps Ds w' := by
  obtain ⟨h1, h2, h3, h4, h5, h6⟩ := h
  refine ⟨h1, (hb.block wb (Array.getElem?_eq_some_iff.1 h2).1).trans h2, own_to h3 hb, own_to h4 hb, fun p hp => ?_, fun k d hd => ⟨(h6 k d hd).1, own_to (h6 k d hd).2 hb⟩⟩
  obtain ⟨_, u0, u1, u2, v, v', q1, q2, _⟩ := h5 p hp
  exact (h5 p hp).to hb.size (hb.block _ (Array.getElem?_eq_some_iff.1 q1).1) (hb.block _ (Array.getElem?_eq_some_iff.1 q2).1) fun b hl hG => ⟨hG, hb.block b hl⟩
theorem own_ty {w : World} {base : Nat} {e : TypeId} {size : Nat} {v : Value} {n : Nat} {xs : List Value} (h : w.ownsRow base e size v n xs) {g : Nat} (hg : v.ownBlock = some g) : ∃ cur, w.heap[g]? = some (.cells cur e (0, 0)) := by
  obtain ⟨_, ⟨rfl, _⟩ | ⟨g', cap, cur, rfl, _, h2, _⟩⟩ := h
  · cases hg
  · have e2 : g' = g := by simpa [Value.ownBlock] using hg
    subst e2
    exact ⟨cur, h2⟩
theorem ty_ne {w : World} {g g' : Nat} {a b : Array Value} {e e' : TypeId} (h : w.heap[g]? = some (.cells a e (0, 0))) (h' : w.heap[g']? = some (.cells b e' (0, 0))) (hne : e ≠ e') : g ≠ g' := fun x => by
  subst x; rw [h] at h'; cases h'; exact hne rfl
/-- what a step leaves as it was, and that what it makes is new -/
def Mv (wb : Nat) (vl vd : Value) (Ps : List DPair) (vl' vd' : Value) (Ps' : List DPair) (w w' : World) : Prop :=
  (w'.os = w.os ∧ w'.tape = w.tape ∧ w'.output = w.output) ∧ w.heap.size ≤ w'.heap.size ∧ (∀ g, vl'.ownBlock = some g → vl.ownBlock = some g ∨ w.heap.size ≤ g) ∧ (∀ g, vd'.ownBlock = some g → vd.ownBlock = some g ∨ w.heap.size ≤ g) ∧ (∀ p ∈ Ps', (∃ q ∈ Ps, q.tb = p.tb ∧ q.rb = p.rb) ∨ w.heap.size ≤ p.tb ∧ w.heap.size ≤ p.rb) ∧
    ∀ b, b < w.heap.size → GSt wb vl vd Ps b = false → w'.heap[b]? = w.heap[b]?
theorem Mv.grow {wb : Nat} {vl vd : Value} {Ps : List DPair} {w w' : World} (hb : Below w.heap.size w w') : Mv wb vl vd Ps vl vd Ps w w' :=
  ⟨⟨hb.os, hb.tape, hb.output⟩, hb.size, fun _ h => .inl h, fun _ h => .inl h, fun p hp => .inl ⟨p, hp, rfl, rfl⟩, fun b h _ => hb.block b h⟩
/-- a Compile that succeeds: one pair more -/
theorem St.compiled {wb B : Nat} {vl vd : Value} {Ps : List DPair} {Ds : List DSl} {w w' : World} {c : DClu} (h : St wb B vl vd Ps Ds w) (hr : (right c).1 = 0) (hc : CompiledOk wb B vl vd (Ps.map DPair.at) c w w') : ∃ vl' tb rb, St wb B vl' vd (Ps ++ [⟨tb, rb, c⟩]) Ds w' ∧ Mv wb vl vd Ps vl' vd (Ps ++ [⟨tb, rb, c⟩]) w w' := by
  obtain ⟨h1, h2, h3, h4, h5, h6⟩ := h
  obtain ⟨vl', tb, rb, u0, u1, u2, v, v', c1, c2, c3, c4, c5, c6, c7, c8, c9, ⟨a, n, a', n', e1, e2, e3, e4⟩, cs, ct, co, c10⟩ := hc
  have hwl := (Array.getElem?_eq_some_iff.1 h2).1
  have hkeep : ∀ {g : Nat} {cur : Array Value} {t : TypeId}, w.heap[g]? = some (.cells cur t (0, 0)) → t ≠ 85 → t ≠ 119 → w'.heap[g]? = w.heap[g]? := fun {g cur t} hg t1 t2 =>
    c10 g (Array.getElem?_eq_some_iff.1 hg).1 (ty_ne hg h2 t1) (fun e => by obtain ⟨cu, hcu⟩ := own_ty h3 e; exact ty_ne hg hcu t2 rfl)
  have hvd : ∀ g, vd.ownBlock = some g → g < w.heap.size := fun g hg => (h4.lt g hg).2
  have hold : ∀ p ∈ Ps, p.tb < w.heap.size ∧ p.rb < w.heap.size := fun p hp => by
    obtain ⟨_, _, _, _, _, _, q1, q2, _⟩ := h5 p hp
    exact ⟨(Array.getElem?_eq_some_iff.1 q1).1, (Array.getElem?_eq_some_iff.1 q2).1⟩
  have hvl' : ∀ g, vl'.ownBlock = some g → vl.ownBlock = some g ∨ rb < g := fun g hg => by
    rcases c6 with e | ⟨g', e, hgt⟩
    · exact .inl (e ▸ hg)
    · rw [e] at hg; cases hg; exact .inr hgt
  have hvll : ∀ g, vl.ownBlock = some g → g < w.heap.size := fun g hg => (h3.lt g hg).2
  refine ⟨vl', tb, rb, ?_, ⟨cs, ct, co⟩, by omega, fun g hg => (hvl' g hg).imp id (fun h => by omega), fun g hg => .inl hg, fun p hp => (List.mem_append.1 hp).imp (fun h => ⟨p, h, rfl, rfl⟩) (fun h => by rw [List.mem_singleton] at h; subst h; exact ⟨c1, by show w.heap.size ≤ rb; omega⟩), fun b hb hG => c10 b hb (GSt_false.1 hG).1 (GSt_false.1 hG).2.1⟩
  refine ⟨h1, c4, ?_, own_stay h4 fun g hg => by obtain ⟨cu, hcu⟩ := own_ty h4 hg; exact hkeep hcu (by decide) (by decide), fun p hp => ?_, fun k d hd => ⟨(h6 k d hd).1, own_stay (h6 k d hd).2 fun g hg => by obtain ⟨cu, hcu⟩ := own_ty (h6 k d hd).2 hg; exact hkeep hcu (by decide) (by decide)⟩⟩
  · rw [List.map_append]; exact c5
  · rcases List.mem_append.1 hp with hp | hp
    · obtain ⟨_, _, _, _, _, _, q1, q2, _⟩ := h5 p hp
      refine (h5 p hp).to (by omega) (hkeep q1 (by decide) (by decide)) (hkeep q2 (by decide) (by decide)) fun b hb hG => ?_
      obtain ⟨g1, g2, g3, g4⟩ := GSt_false.1 hG
      refine ⟨GSt_false.2 ⟨g1, fun e => ?_, g3, fun q hq => ?_⟩, c10 b hb g1 g2⟩
      · rcases hvl' b e with e' | e'
        · exact g2 e'
        · omega
      · rcases List.mem_append.1 hq with hq | hq
        · exact g4 q hq
        · rw [List.mem_singleton] at hq; subst hq; exact ⟨by show tb ≠ b; omega, by show rb ≠ b; omega⟩
    · rw [List.mem_singleton] at hp
      subst hp
      have hG : ∀ b, b < w'.heap.size → (decide (b ≤ tb) || decide (rb ≤ b)) = false → GSt wb vl' vd (Ps ++ [⟨tb, rb, c⟩]) b = false ∧ w'.heap[b]? = w'.heap[b]? := fun b hb hx => by
        simp only [Bool.or_eq_false_iff, decide_eq_false_iff_not] at hx
        refine ⟨GSt_false.2 ⟨by omega, fun e => ?_, fun e => by have := hvd b e; omega, fun q hq => ?_⟩, rfl⟩
        · rcases hvl' b e with e' | e'
          · have := hvll b e'; omega
          · omega
        · rcases List.mem_append.1 hq with hq | hq
          · have := hold q hq; omega
          · rw [List.mem_singleton] at hq; subst hq; exact ⟨by show tb ≠ b; omega, by show rb ≠ b; omega⟩
      exact ⟨hr, u0, u1, u2, v, v', c7, c8, c9.sub (BSub.hide hG) (Nat.le_refl _), a, n, a', n', e1, e2, rdPods.sub (Sub.hide hG) (Nat.le_refl _) e3, rdPols.sub (Sub.hide hG) (Nat.le_refl _) e4⟩
end Go.Proofs.YtmkjlhplgcifiaaGreat
