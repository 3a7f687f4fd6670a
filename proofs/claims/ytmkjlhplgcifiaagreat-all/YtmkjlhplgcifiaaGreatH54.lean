/-
  palisadelaw: plays, walked: a script's steps, one after another.
-/
import Derived.Test.YtmkjlhplgcifiaaGreatH53
import Derived.Test.YtmkjlhplgcifiaaGreatH45
import Derived.Test.YtmkjlhplgcifiaaGreatH46
import Derived.Deep.MidRow
namespace Go.Proofs.YtmkjlhplgcifiaaGreat
open Go.ChangeShapes Go.WideShapes Go.ChangeAt Go.RowKit
set_option linter.unusedVariables false
set_option linter.unusedSimpArgs false
attribute [local simp] World.cell?_grow World.cell?_alloc_there
attribute [local go_sem] World.cell?_grow World.cell?_alloc_there eqg_blk std_blk eqg_pod std_pod eqg_sel std_sel eqg_prt std_prt eqg_row std_row
attribute [local go_sem ↓] eql_blk eql_sel neq_sel eql_prt eql_pod met_in1 met_in2 met_re1 met_re2 met_has1 met_has2 met_bl1 met_bl2 neq_row
def nilSl : DSl := ⟨none, 0, 0⟩
def opC (xa ya : Option Addr) : DOp := ⟨3, 0, 0, 0, ⟨xa, 2, 2⟩, ⟨ya, 1, 1⟩, ⟨0, 0, 0, 0⟩, 0, 0, 0, 0, 0, 0, 0, 0, nilSl, nilSl, litClu, [], []⟩
def opQ (kd : Int) (k : DPkt) : DOp := ⟨kd, 0, 1, 2, nilSl, nilSl, k, 0, 0, 0, 0, 0, 0, 0, 0, nilSl, nilSl, ⟨[], []⟩, [], []⟩
def five (xa ya : Option Addr) : List DOp := [opC xa ya, opQ 4 ⟨5, 6, 1, 80⟩, opQ 4 ⟨6, 6, 1, 80⟩, opQ 5 ⟨5, 6, 1, 80⟩, opQ 5 ⟨6, 6, 1, 80⟩]
theorem lit_right : (right litClu).1 = 0 := by decide
theorem okQ (B : Nat) (w : World) (kd : Int) (k : DPkt) : okOp B w (opQ kd k) := ⟨⟨rfl, rfl, rfl, rfl⟩, rd_nil _ _ _ _ _ _, rd_nil _ _ _ _ _ _, rd_nil _ _ _ _ _ _, rd_nil _ _ _ _ _ _⟩
theorem okC {B : Nat} {w : World} {xa ya : Option Addr} (hx : rdPods B w xa litClu.pods) (hy : rdPols B w ya litClu.pols) : okOp B w (opC xa ya) := ⟨⟨rfl, rfl, rfl, rfl⟩, hx, hy, rd_nil _ _ _ _ _ _, rd_nil _ _ _ _ _ _⟩
theorem five_ok {B : Nat} {w : World} {xa ya : Option Addr} (hx : rdPods B w xa litClu.pods) (hy : rdPols B w ya litClu.pols) : ∀ x ∈ five xa ya, okOp B w x ∧ i64 x.on := by
  intro x hx'
  have z : i64 0 := ⟨by omega, by omega⟩
  simp only [five, List.mem_cons, List.not_mem_nil, or_false] at hx'
  rcases hx' with rfl | rfl | rfl | rfl | rfl
  · exact ⟨okC hx hy, z⟩
  · exact ⟨okQ _ _ _ _, z⟩
  · exact ⟨okQ _ _ _ _, z⟩
  · exact ⟨okQ _ _ _ _, z⟩
  · exact ⟨okQ _ _ _ _, z⟩
theorem encOps_one (l : List DOp) : ∀ u ∈ l.flatMap encOp, u.oneCell' = true := by
  intro u hu
  obtain ⟨x, _, hx⟩ := List.mem_flatMap.1 hu
  simp only [encOp, List.mem_cons, List.not_mem_nil, or_false] at hx
  rcases hx with rfl | rfl | rfl | rfl | rfl | rfl | rfl | rfl | rfl | rfl | rfl | rfl | rfl | rfl | rfl | rfl | rfl | rfl | rfl | rfl <;> rfl
theorem info_op : (Tryz.prog.info? 88).map (fun i => (i.zero, i.size, i.bytes)) = some (some (.agg (encOp (opQ 0 ⟨0, 0, 0, 0⟩ |> fun x => { x with oa := 0, ob := 0 })).toArray), 20, 224) := by kernel_rfl
theorem five_own (X : World) (xa ya : Option Addr) (base g : Nat) (hb : base ≤ X.heap.size) (hg : g = X.heap.size) : (X.alloc (.cells ((five xa ya).flatMap encOp).toArray 88)).ownsRow base 88 20 (.slice (some ⟨g, 0, none⟩) 5 5) 5 ((five xa ya).flatMap encOp) := by
  subst hg
  exact own_built X _ base _ 20 5 hb rfl (by unfold maxLen; omega)
theorem ops_hidden {w : World} {wb base : Nat} {v : Value} {l : List DOp} (h : w.ownsRow base 88 20 v l.length (l.flatMap encOp)) (hb : wb < base) (hl : l.length * 200 ≤ 140737488351232) :
    ∃ a c, v = .slice a l.length c ∧ l.length ≤ c ∧ RdSl w.heap.size (hide w fun b => decide (b = wb)) 20 200 eOp a l := by
  have h2 : (hide w fun b => decide (b = wb)).ownsRow base 88 20 v l.length (l.flatMap encOp) := own_stay h fun g hg => hide_block _ _ _ (by have := (h.lt g hg).1; simp; omega)
  have h3 := own_rd (k := 20) (bytes := 200) (E := eOp) (enc := encOp) (fun _ => rfl) h2 (by decide) hl (fun b o x _ _ hc => hc)
  rw [hide_size] at h3
  exact h3
theorem ops_to {B : Nat} {w w' : World} {a : Option Addr} {l : List DOp} (h : RdSl w.heap.size w 20 224 eOp a l) (hb : Below w.heap.size w w') (hB : w.heap.size ≤ B) : RdSl B w' 20 224 eOp a l :=
  RdSl.ext h hB fun b o x hl he j u hj => by rw [hb.cell (p := ⟨b, o + j, none⟩) hl]; exact he j u hj
theorem sub_old {w w' : World} {wb : Nat} (hb : Below w.heap.size w w') (hw : w.heap.size ≤ wb) : Sub w (hide w' fun b => decide (b = wb)) := fun b o u hu => by
  have hl := cell_lt hu
  rw [hide_cell w' _ b o (by simp; omega), hb.cell (p := ⟨b, o, none⟩) hl]
  exact hu
set_option maxRecDepth 100000 in
set_option maxHeartbeats 4000000 in
theorem plays_any (last : Int) (l : List DOp) (sa : Option Addr) (sc : Nat) (w : World) (hr : RdSl w.heap.size w 20 224 eOp sa l) (ho : ∀ x ∈ l, okOp w.heap.size w x ∧ iOp x) (h3 : 3 ≤ last)
    (hstep : ∀ (x : DOp) (wb B S0 : Nat) (vl vd : Value) (Ps : List DPair) (Ds : List DSl) (w : World), St wb B vl vd Ps Ds w → okOp S0 w x → S0 ≤ w.heap.size → (∀ p ∈ Ps, ∀ b, p.has b = true → S0 ≤ b) → i64 x.on → x.kd ≤ last → (Ps.length + 1) * 16 ≤ 140737488355328 → (Ds.length + 4) * 24 ≤ 140737488355328 →
      Calls Tryz.prog 30 #[.pointer (some ⟨wb, 0, none⟩), .agg (encOp x).toArray] w fun e w' => e = .returned (.bool true) ∧ StepOk x wb B vl vd Ps Ds w w') :
    Calls Tryz.prog 11 #[.slice sa l.length sc, .int .i64 last] w fun e w' => e = .returned (.bool true) ∧ Below w.heap.size w w' := by
  have HR := hid hr
  have HO := hid ho
  have HST := hid hstep
  have hlen := hr.1
  clear hr ho hstep
  obtain ⟨i0, hi, iz0, iz1, iz2⟩ := info_parts info_op
  go_enter Tryz.func11, Tryz.ntmps11
  go_wp2_with fail
  generalize hW : ((w.alloc (Obj.cells #[.slice none 0 0, .slice none 0 0] 85)).alloc (Obj.cells #[.int .i64 5, .int .i64 6, .int .i64 1, .int .i64 80] 30)).alloc (Obj.cells #[.int .i64 6, .int .i64 6, .int .i64 1, .int .i64 80] 30) = W
  have hsW : W.heap.size = w.heap.size + 3 := by rw [← hW]; simp
  have HBW := hid (show Below w.heap.size w W from by rw [← hW]; exact bel)
  have HWB := hid (show W.heap[w.heap.size]? = some (.cells #[.slice none 0 0, .slice none 0 0] 85 (0, 0)) from by rw [← hW]; exact (Below.heap_alloc _ _ _ (by simp only [World.size_alloc]; omega)).trans ((Below.heap_alloc _ _ _ (by simp)).trans (new_heap _ _)))
  have y10 : W.cell? ⟨w.heap.size + 1, 0, none⟩ = some (.int .i64 5) := by rw [← hW]; simp [go_sem]
  have y11 : W.cell? ⟨w.heap.size + 1, 1, none⟩ = some (.int .i64 6) := by rw [← hW]; simp [go_sem]
  have y12 : W.cell? ⟨w.heap.size + 1, 2, none⟩ = some (.int .i64 1) := by rw [← hW]; simp [go_sem]
  have y13 : W.cell? ⟨w.heap.size + 1, 3, none⟩ = some (.int .i64 80) := by rw [← hW]; simp [go_sem]
  have y20 : W.cell? ⟨w.heap.size + 1 + 1, 0, none⟩ = some (.int .i64 6) := by rw [← hW]; simp [go_sem]
  have y21 : W.cell? ⟨w.heap.size + 1 + 1, 1, none⟩ = some (.int .i64 6) := by rw [← hW]; simp [go_sem]
  have y22 : W.cell? ⟨w.heap.size + 1 + 1, 2, none⟩ = some (.int .i64 1) := by rw [← hW]; simp [go_sem]
  have y23 : W.cell? ⟨w.heap.size + 1 + 1, 3, none⟩ = some (.int .i64 80) := by rw [← hW]; simp [go_sem]
  clear hW
  refine (little_up W).mono ?_
  rintro e w1 ⟨xa, ya, rfl, hx, hy, hb1⟩
  have HX := hid hx
  have HY := hid hy
  have hs1 := hb1.size
  have HB1 := hid (Ext.trans HBW.out hb1)
  have HW1 := hid ((hb1.block w.heap.size (by omega)).trans HWB.out)
  have z10 := cell_to y10 hb1
  have z11 := cell_to y11 hb1
  have z12 := cell_to y12 hb1
  have z13 := cell_to y13 hb1
  have z20 := cell_to y20 hb1
  have z21 := cell_to y21 hb1
  have z22 := cell_to y22 hb1
  have z23 := cell_to y23 hb1
  clear hx hy hb1 y10 y11 y12 y13 y20 y21 y22 y23
  obtain ⟨n, hn⟩ : ∃ n, n = 5 + l.length := ⟨_, rfl⟩
  obtain ⟨L, hL⟩ : ∃ L, L = five xa ya ++ l := ⟨_, rfl⟩
  have HN := hid hn
  have HLn := hid (show L.length = n by rw [hL, hn]; simp [five]; omega)
  have HL0 := hid (show L[0]? = some (opC xa ya) by rw [hL]; rfl)
  have HLF := hid (show L.flatMap encOp = (five xa ya).flatMap encOp ++ l.flatMap encOp by rw [hL, List.flatMap_append])
  have HLM := hid (show ∀ x ∈ L, x ∈ five xa ya ∨ x ∈ l by rw [hL]; intro x hx; exact List.mem_append.1 hx)
  have hnl : n * 220 ≤ 140737488351232 := by omega
  clear hn hL
  go_wp2_with (at_builtin; go_must (refine wpList_append_list _ rfl _ _ 22 rfl (w1.heap.size + 1) 88 i0 _ 20 224 Tryz.underlying22 hi iz0 iz1 iz2 rfl (by decide) (.slice (some ⟨w1.heap.size + 1, 0, none⟩) 5 5) 5 ((five xa ya).flatMap encOp) rfl (five_own (w1.alloc (.cells #[.slice xa 2 2, .slice ya 1 1] 28)) xa ya (w1.heap.size + 1) (w1.heap.size + 1) (by simp) (by simp)) sa _ sc (l.flatMap encOp) rfl (oflat_len (k := 20) (fun _ => rfl) _) (news_of (k := 20) (fun _ => rfl) (by decide) (ops_to HR.out ((HB1.out.alloc (by omega) _).alloc (by simp only [World.size_alloc]; omega) _) (Nat.le_refl _)) (fun _ _ _ h => h)) (encOps_one _) (by unfold maxLen; omega) (by omega) (by simp) ?_); intro v' w3 hown' hg3)
  have hown : w3.ownsRow (w1.heap.size + 1) 88 20 v' L.length (L.flatMap encOp) := by rw [HLn.out, HN.out, HLF.out]; exact hown'
  obtain ⟨va, vc, hv, hvc, hrd⟩ := ops_hidden (wb := w.heap.size) hown (by omega) (by rw [HLn.out]; omega)
  rw [HLn.out] at hv hvc
  subst hv
  have HRD := hid hrd
  have hB3 : Below w.heap.size w w3 := Below.grown ((HB1.out.alloc (by omega) _).alloc (by simp only [World.size_alloc]; omega) _) hg3 (by simp only [World.size_alloc]; omega) (fun j hj => by simp [Value.ownBlock] at hj; omega)
  have hB3' : Below w1.heap.size w1 w3 := Below.grown (((Below.refl w1.heap.size w1).alloc (Nat.le_refl _) _).alloc (by simp only [World.size_alloc]; omega) _) hg3 (by simp only [World.size_alloc]; omega) (fun j hj => by simp [Value.ownBlock] at hj; omega)
  have HB3 := hid hB3
  have hs3 := hB3'.size
  have HOK := hid (show ∀ x ∈ L, okOp w3.heap.size (hide w3 fun b => decide (b = w.heap.size)) x ∧ i64 x.on from fun x hx => by
    rcases HLM.out x hx with hx | hx
    · have hsub : Sub (hide w1 (low W.heap.size)) (hide w3 fun b => decide (b = w.heap.size)) := Sub.hide fun b hb hG => ⟨by have := low_false.1 hG; simp; omega, hB3'.block b hb⟩
      exact five_ok (rdPods.sub hsub hs3 HX.out) (rdPols.sub hsub hs3 HY.out) x hx
    · obtain ⟨h1, h2⟩ := HO.out x hx
      exact ⟨okOp.sub (sub_old hB3 (Nat.le_refl _)) (by omega) h1, h2.1.2.1⟩)
  have HS0 := hid (show StF w3.heap.size w3 w.heap.size w.heap.size (.slice none 0 0) (.slice none 0 0) [] [] w3 from
    ⟨⟨⟨Nat.le_refl _, rfl⟩, (hB3'.block w.heap.size (by omega)).trans HW1.out, World.ownsRow_nil _ _ _ _, World.ownsRow_nil _ _ _ _, fun p hp => (by simp at hp), fun k d hd => (by simp at hd), List.Pairwise.nil⟩, Nat.le_refl _, fun g hg => (by cases hg), fun g hg => (by cases hg), fun p hp b e => (by simp at hp), fun _ _ _ => rfl, rfl, rfl, rfl⟩)
  have hwb3 : w.heap.size < w3.heap.size := by omega
  clear hown hown' hg3 hrd hB3 hB3' z10 z11 z12 z13 z20 z21 z22 z23
  go_wp2_with fail
  go_loopw [10] (fun i wr => ∃ (k : Nat) (vl vd : Value) (Ps : List DPair) (Ds : List DSl), k ≤ n ∧ i = .int .i64 k ∧ StF w3.heap.size w3 w.heap.size w.heap.size vl vd Ps Ds wr ∧ Ps.length ≤ k ∧ Ds.length ≤ 4 * k ∧ (0 < k → 0 < Ps.length)) (fun i _ => n - (intOf i).toNat)
  case atStart => exact ⟨0, _, _, [], [], Nat.zero_le _, rfl, HS0.out, Nat.le_refl _, Nat.le_refl _, fun h => absurd h (Nat.lt_irrefl _)⟩
  case round =>
    obtain ⟨k, vl, vd, Ps, Ds, hk, rfl, hst, hPs, hDs, hpos⟩ := hrel
    obtain ⟨wa, hwa⟩ : ∃ wa, wa = wr := ⟨_, rfl⟩
    subst hwa
    have HSF := hid hst
    clear hst
    by_cases hlt : k < n
    · have zk : (k : Int) < (n : Int) := by omega
      obtain ⟨x, hxk⟩ : ∃ x, L[k]? = some x := ⟨L[k]'(by rw [HLn.out]; exact hlt), List.getElem?_eq_getElem _⟩
      have HXK := hid hxk
      obtain ⟨hokx, honx⟩ := HOK.out x (List.mem_of_getElem? hxk)
      obtain ⟨b, off, rfl, hb, he⟩ := HRD.out.2 k x hxk
      have HE := hid (show wa.rangeAt b (off + k * 20) (encOp x) from fun j u hj => HSF.out.sub rfl _ _ _ (he j u hj))
      have c0 : wa.cell? ⟨b, off + k * 20, none⟩ = some (.int .i64 x.kd) := HE.out 0 _ rfl
      have HOX := hid (okOp.sub (HSF.out.sub rfl) (Nat.le_refl _) hokx)
      have HON := hid honx
      have HK0 := hid (show k = 0 → x.kd = 3 ∧ (right x.c).1 = 0 from fun e => by
        subst e
        have e := HL0.out
        rw [HXK.out] at e
        cases e
        exact ⟨rfl, lit_right⟩)
      clear hxk hokx honx he
      by_cases hkd : x.kd ≤ last
      · have zl : ¬ last < x.kd := by omega
        go_wp2_with (refine wpList_load_mid rfl 88 _ rfl b (off + k * 20) rfl (encOp x) _ HE.out Tryz.underlying88 rfl op_size ?_)
        refine (HST.out x w.heap.size w.heap.size w3.heap.size vl vd Ps Ds wa HSF.out.1 HOX.out HSF.out.2.1 HSF.out.2.2.2.2.1 HON.out hkd (by omega) (by omega)).mono ?_
        rintro e w4 ⟨rfl, vl', vd', Ps', Ds', hst, hmv, l1, l2, l3, l4⟩
        have hp4 : 0 < Ps'.length := by
          rcases Nat.eq_zero_or_pos k with e | e
          · obtain ⟨e1, e2⟩ := HK0.out e
            have := l4 e1 e2
            omega
          · have := hpos e
            omega
        have HSF4 := hid (HSF.out.mv hst hmv)
        obtain ⟨la, lc, hvl, _, _⟩ := own_slice hst.2.2.1
        rw [List.length_map] at hvl
        have w40 : w4.cell? ⟨w.heap.size, 0, none⟩ = some (.slice la Ps'.length lc) := by rw [← hvl]; exact (blk_cell hst.2.1 0).trans rfl
        have HST4 := hid hst
        have zp : ¬ ((Ps'.length : Int) = 0) := by omega
        clear hst hmv l4 hvl c0
        go_wp2_with fail
        refine (HST4.out.looks (by omega)).mono ?_
        rintro e w5 ⟨rfl, hb5⟩
        have HSF5 := hid (HSF4.out.mv (HST4.out.grow hb5) (Mv.grow hb5))
        clear hb5 w40
        go_wp2
        exact ⟨⟨k + 1, vl', vd', Ps', Ds', by omega, by go_num, HSF5.out, by omega, by omega, fun _ => hp4⟩, by simp [intOf]; omega⟩
      · have zl : last < x.kd := by omega
        have hk0 : k ≠ 0 := fun e => by have := (HK0.out e).1; omega
        go_wp2
        exact ⟨⟨k + 1, vl, vd, Ps, Ds, by omega, by go_num, HSF.out, by omega, by omega, fun _ => hpos (by omega)⟩, by simp [intOf]; omega⟩
    · have zk : ¬ (k : Int) < (n : Int) := by omega
      go_wp2
      go_ret
      exact ⟨rfl, HB3.out.trans (HSF.out.below hwb3 rfl)⟩
theorem allLaw_any (sa : Option Addr) (l : List DOp) (sc : Nat) (w : World) (hr : RdSl w.heap.size w 20 224 eOp sa l) (ho : ∀ x ∈ l, okOp w.heap.size w x ∧ iOp x) :
    Calls Tryz.prog 9 #[.slice sa l.length sc] w fun e w' => e = .returned (.bool true) ∧ Below w.heap.size w w' := by
  have HP := hid (plays_any 10 l sa sc w hr ho (by decide) fun x wb B S0 vl vd Ps Ds w h h1 h2 h3 h4 h5 h6 h7 => step_all x h h1 h2 h3 h4 h5 h6 h7)
  clear hr ho
  go_enter Tryz.func9, Tryz.ntmps9
  go_wp2_with fail
  refine HP.out.mono ?_
  rintro e w1 ⟨rfl, hb1⟩
  have HB1 := hid hb1
  clear hb1
  go_wp2
  go_ret
  exact ⟨rfl, HB1.out⟩
end Go.Proofs.YtmkjlhplgcifiaaGreat
