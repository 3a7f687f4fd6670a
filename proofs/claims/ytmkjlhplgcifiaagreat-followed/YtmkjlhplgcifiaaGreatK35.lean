/-
  palisadekeep: Followed, walked.
-/
import Derived.Test.YtmkjlhplgcifiaaGreatK34
namespace Go.Proofs.YtmkjlhplgcifiaaGreat
open Go.ChangeShapes Go.WideShapes Go.ChangeAt Go.RowKit
attribute [local simp] World.cell?_grow
attribute [local go_sem] World.cell?_grow
attribute [local simp] World.cell?_alloc_there
attribute [local go_sem] World.cell?_alloc_there
attribute [local go_sem] eqg_blk std_blk eqg_pod std_pod eqg_sel std_sel eqg_prt std_prt
attribute [local go_sem ↓] eql_blk eql_sel neq_sel eql_prt eql_pod
attribute [local go_sem ↓] met_in1 met_in2 met_re1 met_re2
attribute [local go_sem ↓] met_has1 met_has2
attribute [local go_sem ↓] met_bl1 met_bl2
attribute [local go_sem] eqg_row std_row
attribute [local go_sem ↓] neq_row
set_option linter.unusedVariables false
set_option linter.unusedSimpArgs false
/-- a cluster that was made: where its lists lie -/
theorem CluUp.get2 {B : Nat} {w' : World} {v v' : Value} {c : DClu} (h : CluUp B w' v v' c) :
    ∃ a n a' n', v = .slice a (mkClu c).pods.length n ∧ v' = .slice a' (mkClu c).pols.length n' ∧ ((mkClu c).pods.length ≤ n ∧ (mkClu c).pols.length ≤ n') ∧ rdPods w'.heap.size (hide w' (low B)) a (mkClu c).pods ∧ rdPols w'.heap.size (hide w' (low B)) a' (mkClu c).pols := by
  obtain ⟨m, ys, hm, hup, hv, huq, hys⟩ := h
  have hl := (mkPods_good c.pods).1
  have hyl : ys.length ≤ 4 := by have h := congrArg List.length hys; simp at h; omega
  obtain ⟨a, n, rfl, hn, hr⟩ := upPods_done hup (by omega)
  obtain ⟨a', n', rfl, hn', hr'⟩ := upPols_done huq (by omega)
  rw [hys] at hn' hr' ⊢
  exact ⟨a, n, a', n', rfl, rfl, ⟨hn, hn'⟩, hr, rdPols.sub (Sub.low hm) (Nat.le_refl _) hr'⟩
theorem sub_low {w w' : World} {B tb cb : Nat} (hb : Below w.heap.size w w') (h1 : w.heap.size ≤ tb) (h2 : cb < B ∨ w.heap.size ≤ cb) : Sub (hide w (low B)) (hide w' (gF tb cb)) :=
  Sub.hide fun b hl hG => ⟨gF_false.2 (by have := low_false.1 hG; omega), hb.block b hl⟩
/-- a list of numbers -/
def eInt (_B : Nat) (w : World) (b o : Nat) (x : Int) : Prop := w.cell? ⟨b, o, none⟩ = some (.int .i64 x)
theorem ixOf_some {l : List DPod} {ip : Int} (h : ¬ podAt l ip = none) : 0 ≤ ixOf l ip := by
  cases e : podAt l ip with
  | none => exact absurd e h
  | some p => obtain ⟨k, _, h2⟩ := podAt_ix e; omega
set_option maxRecDepth 100000 in
set_option maxHeartbeats 8000000 in
theorem followed_any (c m : DClu) (ds : List Int) (k : DPkt) (pa qa ma na da : Option Addr) (pc qc mc nc dc : Nat) (w : World) (hp : rdPods w.heap.size w pa c.pods) (hq : rdPols w.heap.size w qa c.pols) (hmp : rdPods w.heap.size w ma m.pods) (hmq : rdPols w.heap.size w na m.pols) (hd : RdSl w.heap.size w 1 8 eInt da ds) (hi : iClu c) (him : iClu m) (hid1 : ∀ x ∈ ds, i64 x) (hk : iPkt k) :
    Calls Tryz.prog 10 #[.agg #[.slice pa c.pods.length pc, .slice qa c.pols.length qc], .slice da ds.length dc, .agg #[.slice ma m.pods.length mc, .slice na m.pols.length nc], .agg #[.int .i64 k.src, .int .i64 k.dst, .int .i64 k.proto, .int .i64 k.port]] w fun e w' => e = .returned (.bool true) ∧ Below w.heap.size w w' := by
  have HP := hid hp
  have HQ := hid hq
  have HMP := hid hmp
  have HMQ := hid hmq
  have hdl := hd.1
  have HDS := hid hd.2
  have HI := hid hi
  have HIM := hid him
  have HID := hid hid1
  have HK := hid hk
  clear hp hq hmp hmq hd hi him hid1 hk
  go_enter Tryz.func10, Tryz.ntmps10
  go_wp2_with fail
  generalize hW : ((w.alloc (Obj.cells #[.slice pa c.pods.length pc, .slice qa c.pols.length qc] 28)).alloc (Obj.cells #[.slice ma m.pods.length mc, .slice na m.pols.length nc] 28)).alloc (Obj.cells #[.int .i64 k.src, .int .i64 k.dst, .int .i64 k.proto, .int .i64 k.port] 30) = W
  have HSW := hid (show W.heap.size = w.heap.size + 3 by rw [← hW]; simp)
  have HBW := hid (show Below w.heap.size w W from by rw [← hW]; exact (by repeat (first | exact Below.refl _ _ | assumption | apply Ext.alloc | apply Ext.drewN | apply Ext.drew | refine Ext.trans ?_ (by assumption))))
  have c0 : W.cell? ⟨w.heap.size, 0, none⟩ = some (.slice pa c.pods.length pc) := by rw [← hW]; simp [go_sem]
  have c1 : W.cell? ⟨w.heap.size, 1, none⟩ = some (.slice qa c.pols.length qc) := by rw [← hW]; simp [go_sem]
  have m0 : W.cell? ⟨w.heap.size + 1, 0, none⟩ = some (.slice ma m.pods.length mc) := by rw [← hW]; simp [go_sem]
  have m1 : W.cell? ⟨w.heap.size + 1, 1, none⟩ = some (.slice na m.pols.length nc) := by rw [← hW]; simp [go_sem]
  have KQ := hid (show W.heap[w.heap.size + 1 + 1]? = some (.cells #[.int .i64 k.src, .int .i64 k.dst, .int .i64 k.proto, .int .i64 k.port] 30 (0, 0)) from by
    rw [← hW]
    have := new_heap ((w.alloc (Obj.cells #[.slice pa c.pods.length pc, .slice qa c.pols.length qc] 28)).alloc (Obj.cells #[.slice ma m.pods.length mc, .slice na m.pols.length nc] 28)) (.cells #[.int .i64 k.src, .int .i64 k.dst, .int .i64 k.proto, .int .i64 k.port] 30)
    simp only [World.size_alloc] at this
    exact this)
  clear hW
  refine (awake_any W).mono ?_
  rintro e wA ⟨rfl, hbA⟩
  have HBA := hid (Ext.trans HBW.out hbA)
  have HSA := hid (show w.heap.size + 3 ≤ wA.heap.size by have := HSW.out; have := hbA.size; omega)
  have KQA := hid ((hbA.block (w.heap.size + 1 + 1) (by have := HSW.out; omega)).trans KQ.out)
  have d0 := cell_to c0 hbA
  have d1 := cell_to c1 hbA
  have e0 := cell_to m0 hbA
  have e1 := cell_to m1 hbA
  clear hbA c0 c1 m0 m1
  go_wp2_with fail
  refine (mkClu_any c pa qa pc qc wA (rdPods.to HP.out HBA.out) (rdPols.to HQ.out HBA.out) HI.out).mono ?_
  rintro e wB ⟨⟨v, v', rfl, hcu⟩, hbB⟩
  obtain ⟨a, n, a', n', rfl, rfl, ⟨hn, hn'⟩, hrp, hrq⟩ := hcu.get2
  have HR := hid (show (right (mkClu c)).1 = 0 by rw [mkClu_right])
  obtain ⟨C, hC⟩ : ∃ C, C = mkClu c := ⟨_, rfl⟩
  rw [← hC] at hn hn' hrp hrq HR
  simp only [← hC]
  have HRP := hid hrp
  have HRQ := hid hrq
  have HN := hid hn
  have HN' := hid hn'
  have HBB := hid (Ext.trans HBA.out hbB)
  have HSB := hid hbB.size
  have KQB := hid ((hbB.block (w.heap.size + 1 + 1) (by have := HSA.out; omega)).trans KQA.out)
  have f0 := cell_to e0 hbB
  have f1 := cell_to e1 hbB
  clear hbB hcu d0 d1 e0 e1 hrp hrq hC hn hn'
  go_wp2_with fail
  generalize hX : wB.alloc (Obj.cells #[.slice a C.pods.length n, .slice a' C.pols.length n'] 28) = X
  have HSX := hid (show X.heap.size = wB.heap.size + 1 by rw [← hX]; simp)
  have HBX := hid (show Below wB.heap.size wB X from by rw [← hX]; exact (by repeat (first | exact Below.refl _ _ | assumption | apply Ext.alloc | apply Ext.drewN | apply Ext.drew | refine Ext.trans ?_ (by assumption))))
  have KX := hid (show X.heap[wB.heap.size]? = some (.cells #[.slice a C.pods.length n, .slice a' C.pols.length n'] 28 (0, 0)) from by rw [← hX]; exact new_heap _ _)
  clear hX f0 f1
  refine (mkClu_any m ma na mc nc X (rdPods.to HMP.out (Ext.trans HBB.out HBX.out)) (rdPols.to HMQ.out (Ext.trans HBB.out HBX.out)) HIM.out).mono ?_
  rintro e wM ⟨⟨v, v', rfl, hcu⟩, hbM⟩
  obtain ⟨b, o, b', o', rfl, rfl, ⟨ho, ho'⟩, hrp, hrq⟩ := hcu.get2
  have HMR := hid (show (right (mkClu m)).1 = 0 by rw [mkClu_right])
  obtain ⟨M, hM⟩ : ∃ M, M = mkClu m := ⟨_, rfl⟩
  rw [← hM] at ho ho' hrp hrq HMR
  simp only [← hM]
  have HMRP := hid hrp
  have HMRQ := hid hrq
  have HSM := hid hbM.size
  have HBM := hid (Ext.trans (Ext.trans HBB.out HBX.out) hbM)
  have HBXM := hid (Ext.trans HBX.out hbM)
  have KCM := hid ((hbM.block wB.heap.size (by have := HSX.out; omega)).trans KX.out)
  have KQM := hid (((Ext.trans HBX.out hbM).block (w.heap.size + 1 + 1) (by have := HSA.out; have := HSB.out; omega)).trans KQB.out)
  have g0 : wM.cell? ⟨wB.heap.size, 0, none⟩ = some (.slice a C.pods.length n) := (blk_cell KCM.out 0).trans rfl
  have g1 : wM.cell? ⟨wB.heap.size, 1, none⟩ = some (.slice a' C.pols.length n') := (blk_cell KCM.out 1).trans rfl
  clear hbM hcu hrp hrq hM
  go_wp2_with fail
  generalize hY : wM.alloc (Obj.cells #[.slice b M.pods.length o, .slice b' M.pols.length o'] 28) = Y
  have HSY := hid (show Y.heap.size = wM.heap.size + 1 by rw [← hY]; simp)
  have HBY := hid (show Below wM.heap.size wM Y from by rw [← hY]; exact (by repeat (first | exact Below.refl _ _ | assumption | apply Ext.alloc | apply Ext.drewN | apply Ext.drew | refine Ext.trans ?_ (by assumption))))
  have KM := hid (show Y.heap[wM.heap.size]? = some (.cells #[.slice b M.pods.length o, .slice b' M.pols.length o'] 28 (0, 0)) from by rw [← hY]; exact new_heap _ _)
  clear hY g0 g1
  have HBC := hid (Ext.trans HBXM.out HBY.out)
  refine (compile_ok C a a' n n' Y (rdPods.sub (sub_in HBC.out) HBC.out.size HRP.out) (rdPols.sub (sub_in HBC.out) HBC.out.size HRQ.out) HN.out HR.out).mono ?_
  rintro e wT ⟨⟨tb, rfl, htb, u0, u1, u2, htT, hTC⟩, hbT⟩
  have HTB := hid htb
  have HBT := hid hbT
  have HFST := hid (show Fst tb wB.heap.size C a a' n n' wT from by
    have e1 := HSX.out
    have e2 := HSM.out
    have e3 := HSY.out
    have e4 := HSB.out
    have hBT := Ext.trans HBC.out hbT
    have hne : tb ≠ wB.heap.size := by omega
    refine ⟨⟨HR.out, HN.out, HN'.out, hne⟩, (hbT.block _ (by omega)).trans ((HBY.out.block _ (by omega)).trans KCM.out), rdPods.sub (sub_low hBT (by omega) (.inr (Nat.le_refl _))) hBT.size HRP.out, rdPols.sub (sub_low hBT (by omega) (.inr (Nat.le_refl _))) hBT.size HRQ.out, u0, u1, u2, htT, hTC.sub (BSub.hide fun x hx hG => ⟨gF_false.2 (by have := low_false.1 hG; omega), rfl⟩) (Nat.le_refl _)⟩)
  have hBMT := Ext.trans HBY.out hbT
  have HMP2 := hid (show rdPods wT.heap.size (hide wT (gF tb wB.heap.size)) b M.pods from rdPods.sub (sub_low hBMT (by have := HSY.out; omega) (.inl (by have := HSX.out; omega))) hBMT.size HMRP.out)
  have HMQ2 := hid (show rdPols wT.heap.size (hide wT (gF tb wB.heap.size)) b' M.pols from rdPols.sub (sub_low hBMT (by have := HSY.out; omega) (.inl (by have := HSX.out; omega))) hBMT.size HMRQ.out)
  have KMT := hid ((hbT.block wM.heap.size (by have := HSY.out; omega)).trans KM.out)
  have KQT := hid ((hBMT.block (w.heap.size + 1 + 1) (by have := HSA.out; have := HSB.out; have := HSX.out; have := HSM.out; omega)).trans KQM.out)
  have HBwT := hid (show Below w.heap.size w wT from Ext.trans HBM.out hBMT)
  have HLT := hid (show w.heap.size + 3 ≤ wB.heap.size ∧ wB.heap.size < wM.heap.size ∧ wM.heap.size < tb ∧ tb < wT.heap.size from ⟨by have := HSA.out; have := HSB.out; omega, by have := HSX.out; have := HSM.out; omega, by have := HSY.out; omega, (Array.getElem?_eq_some_iff.1 htT).1⟩)
  clear hbT htb htT hTC hBMT
  clear HP HQ HMP HMQ HI HIM HBW HBA HSA KQ KQA HSW HRP HRQ HN HN' HBB HSB KQB HSX HBX KX HMRP HMRQ HSM HBM HBXM KCM KQM HSY HBY KM HBC HTB HBT HR
  obtain ⟨cb, hcb⟩ : ∃ cb, cb = wB.heap.size := ⟨_, rfl⟩
  obtain ⟨mb, hmb⟩ : ∃ mb, mb = wM.heap.size := ⟨_, rfl⟩
  rw [← hcb] at HFST HMP2 HMQ2 HLT ⊢
  rw [← hmb] at KMT HLT ⊢
  clear hcb hmb
  go_wp2_with fail
  go_loopw [15] (fun i wr => ∃ (j : Nat) (D : DClu) (xa ya : Option Addr) (xn yn : Nat), j ≤ ds.length ∧ i = .int .i64 j ∧ Fst tb cb D xa ya xn yn wr ∧ Ffr tb cb wT wr) (fun i _ => ds.length - (intOf i).toNat)
  case atStart => exact ⟨0, C, a, a', n, n', Nat.zero_le _, rfl, HFST.out, Ffr.refl _ _ _⟩
  case round =>
    obtain ⟨j, D, xa, ya, xn, yn, hj, rfl, hst, hfr⟩ := hrel
    obtain ⟨wa, hwa⟩ : ∃ wa, wa = wr := ⟨_, rfl⟩
    subst hwa
    have HST := hid hst
    have HFR := hid hfr
    clear hst hfr
    by_cases hlt : j < ds.length
    · have zj : (j : Int) < (ds.length : Int) := by omega
      obtain ⟨x, hx⟩ : ∃ x, ds[j]? = some x := ⟨ds[j], List.getElem?_eq_getElem hlt⟩
      obtain ⟨b2, off2, rfl, hb2, hcx⟩ := HDS.out j x hx
      have HIX := hid (HID.out x (List.mem_of_getElem? hx))
      have hBwa : Below w.heap.size w wa := HBwT.out.trans (HFR.out.under (by have := HLT.out; omega) (by have := HLT.out; omega) (by have := HLT.out; omega))
      have x2 : wa.cell? ⟨b2, off2 + j, none⟩ = some (.int .i64 x) := by
        have e := cell_to hcx hBwa
        rw [Nat.mul_one] at e
        exact e
      have x0 : wa.cell? ⟨cb, 0, none⟩ = some (.slice xa D.pods.length xn) := (blk_cell HST.out.2.1 0).trans rfl
      have x1 : wa.cell? ⟨cb, 1, none⟩ = some (.slice ya D.pols.length yn) := (blk_cell HST.out.2.1 1).trans rfl
      have HW := hid (show Calls Tryz.prog 26 #[.agg #[.slice xa D.pods.length xn, .slice ya D.pols.length yn], .int .i64 x, .pointer (some ⟨tb, 0, none⟩)] wa.drew fun e w' => ∃ E, (right E).1 = 0 ∧ FwOk (gF tb cb) tb E wa.drew e w' from by
        obtain ⟨⟨h1, h2, h3, h4⟩, h5, h6, h7, u0, u1, u2, h8, h9⟩ := HST.out.below ((Below.refl _ wa).drew)
        exact lessOne_any D x tb (gF tb cb) xa ya xn yn u0 u1 u2 wa.drew h6 h7 h2 h3 h8 h9 h1 (gF_tb _ _) (fun b hb => by
          have : b = tb ∨ b = cb := by simpa [gF] using hb
          rcases this with rfl | rfl
          · exact (Array.getElem?_eq_some_iff.1 h8).1
          · exact (Array.getElem?_eq_some_iff.1 h5).1) HIX.out)
      have HB2 := hid (show b2 < w.heap.size from hb2)
      clear hx hcx hBwa
      go_wp2_with fail
      have HS0 : wa.drew.cell? ⟨cb, 0, none⟩ = some (.slice xa D.pods.length xn) ∧ wa.drew.cell? ⟨cb, 1, none⟩ = some (.slice ya D.pols.length yn) ∧ wa.drew.cell? ⟨b2, off2 + j, none⟩ = some (.int .i64 x) := ⟨x0, x1, x2⟩
      refine wp_region_held_then (S := (fun w' : World => w'.cell? ⟨cb, 0, none⟩ = some (.slice xa D.pods.length xn) ∧ w'.cell? ⟨cb, 1, none⟩ = some (.slice ya D.pols.length yn) ∧ w'.cell? ⟨b2, off2 + j, none⟩ = some (.int .i64 x))) 6 (by kernel_rfl) (by kernel_rfl) ?_
      simp only [takes_6]
      have hS0 : (fun w' : World => w'.cell? ⟨cb, 0, none⟩ = some (.slice xa D.pods.length xn) ∧ w'.cell? ⟨cb, 1, none⟩ = some (.slice ya D.pols.length yn) ∧ w'.cell? ⟨b2, off2 + j, none⟩ = some (.int .i64 x)) wa.drew := HS0
      refine htake_0 (.agg #[.slice xa D.pods.length xn, .slice ya D.pols.length yn]) (by kernel_rfl) (by kernel_rfl) (by kernel_rfl) rfl (fun _ _ _ h => h) (fun w' hSw => by (obtain ⟨s0, s1, s2⟩ := hSw; go_simp)) hS0 ?_
      try simp only [Act.put, List.setIfInBounds_toArray, List.set_cons_zero, List.set_cons_succ]
      refine htake_1 (.slice (some ⟨b2, off2, none⟩) ds.length dc) (by kernel_rfl) (by kernel_rfl) (by kernel_rfl) rfl (fun _ _ _ h => h) (fun w' hSw => by (obtain ⟨s0, s1, s2⟩ := hSw; go_simp)) hS0 ?_
      try simp only [Act.put, List.setIfInBounds_toArray, List.set_cons_zero, List.set_cons_succ]
      refine htake_2 (.int .i64 (j : Int)) (by kernel_rfl) (by kernel_rfl) (by kernel_rfl) rfl (fun _ _ _ h => h) (fun w' hSw => by (obtain ⟨s0, s1, s2⟩ := hSw; go_simp)) hS0 ?_
      try simp only [Act.put, List.setIfInBounds_toArray, List.set_cons_zero, List.set_cons_succ]
      refine htake_3 (.pointer (some ⟨b2, off2 + j, none⟩)) (by kernel_rfl) (by kernel_rfl) (by kernel_rfl) rfl (fun _ _ _ h => h) (fun w' hSw => by (obtain ⟨s0, s1, s2⟩ := hSw; go_simp)) hS0 ?_
      try simp only [Act.put, List.setIfInBounds_toArray, List.set_cons_zero, List.set_cons_succ]
      refine htake_4 (.int .i64 x) (by kernel_rfl) (by kernel_rfl) (by kernel_rfl) rfl (fun _ _ _ h => h) (fun w' hSw => by (obtain ⟨s0, s1, s2⟩ := hSw; go_simp)) hS0 ?_
      try simp only [Act.put, List.setIfInBounds_toArray, List.set_cons_zero, List.set_cons_succ]
      refine htake_5 (.pointer (some ⟨tb, 0, none⟩)) (by kernel_rfl) (by kernel_rfl) (by kernel_rfl) rfl (fun _ _ _ h => h) (fun w' hSw => by (obtain ⟨s0, s1, s2⟩ := hSw; go_simp)) hS0 ?_
      try simp only [Act.put, List.setIfInBounds_toArray, List.set_cons_zero, List.set_cons_succ]
      refine wpAnyH_done (by kernel_rfl) ?_ _
      show wpAny _ _ _ _ 6 _ _ _
      refine wpAny_of_held (S := fun _ => True) _ _ _ _ ?_
      try simp only [Act.put, List.setIfInBounds_toArray, List.set_cons_zero, List.set_cons_succ]
      clear hS0 HS0
      refine hone_6 (by kernel_rfl) rfl (fun K hK => ?_)
      go_simp
      go_at_call 26
      refine HW.out.mono ?_
      rintro e w5 ⟨E, hrE, hfw⟩
      obtain ⟨va, vc, wa2, wc2, rfl, hcb5, hg5, hst5⟩ := Fst.less (HST.out.below ((Below.refl _ wa).drew)) hrE hfw
      have HST5 := hid hst5
      have HG5 := hid hg5
      have y0 : w5.cell? ⟨cb, 0, none⟩ = some (.slice xa D.pods.length xn) := (blk_cell hcb5 0).trans rfl
      have y1 : w5.cell? ⟨cb, 1, none⟩ = some (.slice ya D.pols.length yn) := (blk_cell hcb5 1).trans rfl
      have yf := blk_frozen hcb5
      clear hfw hst5 hg5 hcb5 x0 x1 x2
      refine hK _ _ trivial ?_
      clear hK
      try simp only [Act.put, List.setIfInBounds_toArray, List.set_cons_zero, List.set_cons_succ]
      refine hone_7 (by kernel_rfl) rfl (fun K hK => ?_)
      go_simp
      refine hK _ _ trivial ?_
      clear hK
      try simp only [Act.put, List.setIfInBounds_toArray, List.set_cons_zero, List.set_cons_succ]
      refine htake_8 (.agg #[.slice va E.pods.length vc, .slice wa2 E.pols.length wc2]) (by kernel_rfl) (by kernel_rfl) (by kernel_rfl) rfl (fun _ _ _ h => h) (fun w' hSw => by go_simp) trivial ?_
      try simp only [Act.put, List.setIfInBounds_toArray, List.set_cons_zero, List.set_cons_succ]
      refine htake_9 (.bool true) (by kernel_rfl) (by kernel_rfl) (by kernel_rfl) rfl (fun _ _ _ h => h) (fun w' hSw => by go_simp) trivial ?_
      try simp only [Act.put, List.setIfInBounds_toArray, List.set_cons_zero, List.set_cons_succ]
      refine hone_10 (by kernel_rfl) rfl (fun K hK => ?_)
      go_simp
      refine hK _ _ trivial ?_
      clear hK
      try simp only [Act.put, List.setIfInBounds_toArray, List.set_cons_zero, List.set_cons_succ]
      refine hone_11 (by kernel_rfl) rfl (fun K hK => ?_)
      go_simp
      refine hK _ _ trivial ?_
      clear hK
      try simp only [Act.put, List.setIfInBounds_toArray, List.set_cons_zero, List.set_cons_succ]
      refine wpAnyH_done (by kernel_rfl) ?_ _
      clear y0 y1 yf
      go_wp2
      exact ⟨⟨j + 1, E, va, wa2, vc, wc2, by omega, by go_num, HST5.out, (HFR.out.trans ((Ffr.below ((Below.refl _ wa).drew)).trans (Ffr.gb HG5.out))).trans ((Ffr.set tb cb _ 0 _).trans (Ffr.set tb cb _ 1 _))⟩, by simp [intOf]; omega⟩
    · have zj : ¬ (j : Int) < (ds.length : Int) := by omega
      have zm : wa.cell? ⟨mb, 0, none⟩ = some (.slice b M.pods.length o) := (blk_cell ((HFR.out.2 mb (by have := HLT.out; omega) (by have := HLT.out; omega) (by have := HLT.out; omega)).trans KMT.out) 0).trans rfl
      clear HDS HID HFST
      have hMl := (right_lens HMR.out).1
      have hMq := (right_lens HMR.out).2
      go_wp2_with fail
      clear zm
      go_loopw [16] (fun i wr => ∃ (j : Nat) (D : DClu) (xa ya : Option Addr) (xn yn : Nat), j ≤ M.pods.length ∧ i = .int .i64 j ∧ Fst tb cb D xa ya xn yn wr ∧ Ffr tb cb wT wr) (fun i _ => M.pods.length - (intOf i).toNat)
      case atStart => exact ⟨0, D, xa, ya, xn, yn, Nat.zero_le _, rfl, HST.out, HFR.out⟩
      case round =>
        clear HST HFR hj zj hlt
        obtain ⟨j, D, xa, ya, xn, yn, hj, rfl, hst, hfr⟩ := hrel
        obtain ⟨wb, hwb⟩ : ∃ wb, wb = wr := ⟨_, rfl⟩
        subst hwb
        have HST := hid hst
        have HFR := hid hfr
        have KMB := hid ((hfr.2 mb (by have := HLT.out; omega) (by have := HLT.out; omega) (by have := HLT.out; omega)).trans KMT.out)
        have HBIG := hid (show cb < wb.heap.size ∧ tb < wb.heap.size from ⟨(Array.getElem?_eq_some_iff.1 hst.2.1).1, by have := HLT.out; have := hfr.1.2.2.2; omega⟩)
        clear hst hfr
        have zm : wb.cell? ⟨mb, 0, none⟩ = some (.slice b M.pods.length o) := (blk_cell KMB.out 0).trans rfl
        by_cases hlt : j < M.pods.length
        · have zj : (j : Int) < (M.pods.length : Int) := by omega
          obtain ⟨p, hp⟩ : ∃ p, M.pods[j]? = some p := ⟨M.pods[j], List.getElem?_eq_getElem hlt⟩
          have HPO := hid ((right_zero HMR.out).1.1 p (List.mem_of_getElem? hp))
          obtain ⟨pb, po, rfl, hpb, e0, e1, e2, e3⟩ := HMP2.out.2 j p hp
          have q0 : wb.cell? ⟨pb, po + j * 4, none⟩ = some (.int .i64 p.host) := (hide_out (HFR.out.sub _ _ _ e0)).2.2
          have q1 : wb.cell? ⟨pb, po + j * 4 + 1, none⟩ = some (.int .i64 p.ip) := (hide_out (HFR.out.sub _ _ _ e1)).2.2
          have q2 : wb.cell? ⟨pb, po + j * 4 + 2, none⟩ = some (.int .i64 p.space) := (hide_out (HFR.out.sub _ _ _ e2)).2.2
          have q3 : wb.cell? ⟨pb, po + j * 4 + 3, none⟩ = some (.int .i64 p.labels) := (hide_out (HFR.out.sub _ _ _ e3)).2.2
          have HPB := hid (gF_false.1 (hide_out e0).1)
          have x0 : wb.cell? ⟨cb, 0, none⟩ = some (.slice xa D.pods.length xn) := (blk_cell HST.out.2.1 0).trans rfl
          have x1 : wb.cell? ⟨cb, 1, none⟩ = some (.slice ya D.pols.length yn) := (blk_cell HST.out.2.1 1).trans rfl
          have HAT := hid (show ∀ Z, Below wb.heap.size wb Z → Calls Tryz.prog 24 #[.agg #[.slice xa D.pods.length xn, .slice ya D.pols.length yn], .int .i64 p.ip] Z fun e w' => e = .returned (.int .i64 (ixOf D.pods p.ip)) ∧ Below Z.heap.size Z w' from fun Z hb => keepAt_any D.pods p.ip xa ya xn D.pols.length yn Z (rdPods.sub (sub_in hb) hb.size HST.out.2.2.1))
          have HADD := hid (show ∀ Z, Below wb.heap.size wb Z → Calls Tryz.prog 27 #[.pointer (some ⟨tb, 0, none⟩), .agg #[.int .i64 p.host, .int .i64 p.ip, .int .i64 p.space, .int .i64 p.labels]] Z fun e w' => e = .returned (.int .i64 (right ⟨D.pods ++ [p], D.pols⟩).1) ∧ Chg tb ⟨D.pods ++ [p], D.pols⟩ Z w' from fun Z hb => by
            obtain ⟨⟨h1, h2, h3, h4⟩, h5, h6, h7, u0, u1, u2, h8, r, vs, ta, tq, tpc, tqc, rfl, rfl, rfl, _, _, _, rp, rq, _⟩ := HST.out.below hb
            exact addPod_any p tb _ D ta tq tpc tqc Z h8 (rdPods.sub (Sub.show _ _) (Nat.le_refl _) rp) (rdPols.sub (Sub.show _ _) (Nat.le_refl _) rq) h1)
          have hra := right_addPod HST.out.1.1 p
          have HRL := hid (right_lens HST.out.1.1)
          clear hp e0 e1 e2 e3
          obtain ⟨ix, hix⟩ : ∃ ix, ix = ixOf D.pods p.ip := ⟨_, rfl⟩
          rw [← hix] at HAT
          by_cases h8 : 8 ≤ D.pods.length
          · rw [if_pos h8] at hra
            have z8 : 8 ≤ (D.pods.length : Int) := by omega
            by_cases hx0 : 0 ≤ ix
            · rw [hra] at HADD
              go_wp2_with fail
              have HS0 : wb.drew.cell? ⟨cb, 0, none⟩ = some (.slice xa D.pods.length xn) ∧ wb.drew.cell? ⟨cb, 1, none⟩ = some (.slice ya D.pols.length yn) ∧ wb.drew.cell? ⟨mb, 0, none⟩ = some (.slice (some ⟨pb, po, none⟩) M.pods.length o) ∧ wb.drew.cell? ⟨pb, po + j * 4 + 1, none⟩ = some (.int .i64 p.ip) := ⟨x0, x1, zm, q1⟩
              refine wp_region_held_tail (S := (fun w' : World => w'.cell? ⟨cb, 0, none⟩ = some (.slice xa D.pods.length xn) ∧ w'.cell? ⟨cb, 1, none⟩ = some (.slice ya D.pols.length yn) ∧ w'.cell? ⟨mb, 0, none⟩ = some (.slice (some ⟨pb, po, none⟩) M.pods.length o) ∧ w'.cell? ⟨pb, po + j * 4 + 1, none⟩ = some (.int .i64 p.ip))) 8 (by kernel_rfl) (by kernel_rfl) ?_
              simp only [takes_8, drops_8]
              have hS0 : (fun w' : World => w'.cell? ⟨cb, 0, none⟩ = some (.slice xa D.pods.length xn) ∧ w'.cell? ⟨cb, 1, none⟩ = some (.slice ya D.pols.length yn) ∧ w'.cell? ⟨mb, 0, none⟩ = some (.slice (some ⟨pb, po, none⟩) M.pods.length o) ∧ w'.cell? ⟨pb, po + j * 4 + 1, none⟩ = some (.int .i64 p.ip)) wb.drew := HS0
              refine htake_0 (.agg #[.slice xa D.pods.length xn, .slice ya D.pols.length yn]) (by kernel_rfl) (by kernel_rfl) (by kernel_rfl) rfl (fun _ _ _ h => h) (fun w' hSw => by (obtain ⟨s0, s1, s2, s3⟩ := hSw; go_simp)) hS0 ?_
              try simp only [Act.put, List.setIfInBounds_toArray, List.set_cons_zero, List.set_cons_succ]
              refine htake_1 (.pointer (some ⟨mb, 0, none⟩)) (by kernel_rfl) (by kernel_rfl) (by kernel_rfl) rfl (fun _ _ _ h => h) (fun w' hSw => by (obtain ⟨s0, s1, s2, s3⟩ := hSw; go_simp)) hS0 ?_
              try simp only [Act.put, List.setIfInBounds_toArray, List.set_cons_zero, List.set_cons_succ]
              refine htake_2 (.slice (some ⟨pb, po, none⟩) M.pods.length o) (by kernel_rfl) (by kernel_rfl) (by kernel_rfl) rfl (fun _ _ _ h => h) (fun w' hSw => by (obtain ⟨s0, s1, s2, s3⟩ := hSw; go_simp)) hS0 ?_
              try simp only [Act.put, List.setIfInBounds_toArray, List.set_cons_zero, List.set_cons_succ]
              refine htake_3 (.int .i64 (j : Int)) (by kernel_rfl) (by kernel_rfl) (by kernel_rfl) rfl (fun _ _ _ h => h) (fun w' hSw => by (obtain ⟨s0, s1, s2, s3⟩ := hSw; go_simp)) hS0 ?_
              try simp only [Act.put, List.setIfInBounds_toArray, List.set_cons_zero, List.set_cons_succ]
              refine htake_4 (.pointer (some ⟨pb, po + j * 4, none⟩)) (by kernel_rfl) (by kernel_rfl) (by kernel_rfl) rfl (fun _ _ _ h => h) (fun w' hSw => by (obtain ⟨s0, s1, s2, s3⟩ := hSw; go_simp)) hS0 ?_
              try simp only [Act.put, List.setIfInBounds_toArray, List.set_cons_zero, List.set_cons_succ]
              refine htake_5 (.pointer (some ⟨pb, po + j * 4 + 1, none⟩)) (by kernel_rfl) (by kernel_rfl) (by kernel_rfl) rfl (fun _ _ _ h => h) (fun w' hSw => by (obtain ⟨s0, s1, s2, s3⟩ := hSw; go_simp)) hS0 ?_
              try simp only [Act.put, List.setIfInBounds_toArray, List.set_cons_zero, List.set_cons_succ]
              refine htake_6 (.int .i64 p.ip) (by kernel_rfl) (by kernel_rfl) (by kernel_rfl) rfl (fun _ _ _ h => h) (fun w' hSw => by (obtain ⟨s0, s1, s2, s3⟩ := hSw; go_simp)) hS0 ?_
              try simp only [Act.put, List.setIfInBounds_toArray, List.set_cons_zero, List.set_cons_succ]
              refine hone_7 (by kernel_rfl) rfl (fun K hK => ?_)
              go_simp
              go_at_call 24
              refine (HAT.out wb.drew ((Below.refl _ wb).drew)).mono ?_
              rintro e w4 ⟨rfl, hb4⟩
              have HB4 := hid (show Below wb.heap.size wb w4 from ((Below.refl _ wb).drew).trans hb4)
              have hB4 := HB4.out
              have r0 := cell_to x0 hB4
              have r1 := cell_to x1 hB4
              have rm := cell_to zm hB4
              have t0 := cell_to q0 hB4
              have t1 := cell_to q1 hB4
              have t2 := cell_to q2 hB4
              have t3 := cell_to q3 hB4
              clear hb4 hB4
              refine hK _ _ ⟨r0, r1, rm, t1⟩ ?_
              refine wpAnyH_done (by kernel_rfl) ?_ _
              show wpList _ _ _ _ _ _
              try simp only [Act.put, List.setIfInBounds_toArray, List.set_cons_zero, List.set_cons_succ]
              clear hK hS0 HS0
              go_wp2_with fail
              refine (HADD.out w4 HB4.out).mono ?_
              rintro e w5 ⟨rfl, hc⟩
              obtain ⟨hst5, hfr5⟩ := (HST.out.below HB4.out).keep (by rw [hra]; exact (show ¬ (1 : Int) = 0 by decide)) hc
              have HST5 := hid hst5
              have HFR5 := hid (HFR.out.trans ((Ffr.below HB4.out).trans hfr5))
              have s0 : w5.cell? ⟨cb, 0, none⟩ = some (.slice xa D.pods.length xn) := (blk_cell hst5.2.1 0).trans rfl
              clear hc hst5 hfr5 r0 r1 rm t0 t1 t2 t3 hra hix
              go_wp2
              exact ⟨⟨j + 1, D, xa, ya, xn, yn, by omega, by go_num, HST5.out, HFR5.out⟩, by simp [intOf]; omega⟩
            · have hx1 : ¬ 0 ≤ ix := hx0
              rw [hra] at HADD
              go_wp2_with fail
              have HS0 : wb.drew.cell? ⟨cb, 0, none⟩ = some (.slice xa D.pods.length xn) ∧ wb.drew.cell? ⟨cb, 1, none⟩ = some (.slice ya D.pols.length yn) ∧ wb.drew.cell? ⟨mb, 0, none⟩ = some (.slice (some ⟨pb, po, none⟩) M.pods.length o) ∧ wb.drew.cell? ⟨pb, po + j * 4 + 1, none⟩ = some (.int .i64 p.ip) := ⟨x0, x1, zm, q1⟩
              refine wp_region_held_tail (S := (fun w' : World => w'.cell? ⟨cb, 0, none⟩ = some (.slice xa D.pods.length xn) ∧ w'.cell? ⟨cb, 1, none⟩ = some (.slice ya D.pols.length yn) ∧ w'.cell? ⟨mb, 0, none⟩ = some (.slice (some ⟨pb, po, none⟩) M.pods.length o) ∧ w'.cell? ⟨pb, po + j * 4 + 1, none⟩ = some (.int .i64 p.ip))) 8 (by kernel_rfl) (by kernel_rfl) ?_
              simp only [takes_8, drops_8]
              have hS0 : (fun w' : World => w'.cell? ⟨cb, 0, none⟩ = some (.slice xa D.pods.length xn) ∧ w'.cell? ⟨cb, 1, none⟩ = some (.slice ya D.pols.length yn) ∧ w'.cell? ⟨mb, 0, none⟩ = some (.slice (some ⟨pb, po, none⟩) M.pods.length o) ∧ w'.cell? ⟨pb, po + j * 4 + 1, none⟩ = some (.int .i64 p.ip)) wb.drew := HS0
              refine htake_0 (.agg #[.slice xa D.pods.length xn, .slice ya D.pols.length yn]) (by kernel_rfl) (by kernel_rfl) (by kernel_rfl) rfl (fun _ _ _ h => h) (fun w' hSw => by (obtain ⟨s0, s1, s2, s3⟩ := hSw; go_simp)) hS0 ?_
              try simp only [Act.put, List.setIfInBounds_toArray, List.set_cons_zero, List.set_cons_succ]
              refine htake_1 (.pointer (some ⟨mb, 0, none⟩)) (by kernel_rfl) (by kernel_rfl) (by kernel_rfl) rfl (fun _ _ _ h => h) (fun w' hSw => by (obtain ⟨s0, s1, s2, s3⟩ := hSw; go_simp)) hS0 ?_
              try simp only [Act.put, List.setIfInBounds_toArray, List.set_cons_zero, List.set_cons_succ]
              refine htake_2 (.slice (some ⟨pb, po, none⟩) M.pods.length o) (by kernel_rfl) (by kernel_rfl) (by kernel_rfl) rfl (fun _ _ _ h => h) (fun w' hSw => by (obtain ⟨s0, s1, s2, s3⟩ := hSw; go_simp)) hS0 ?_
              try simp only [Act.put, List.setIfInBounds_toArray, List.set_cons_zero, List.set_cons_succ]
              refine htake_3 (.int .i64 (j : Int)) (by kernel_rfl) (by kernel_rfl) (by kernel_rfl) rfl (fun _ _ _ h => h) (fun w' hSw => by (obtain ⟨s0, s1, s2, s3⟩ := hSw; go_simp)) hS0 ?_
              try simp only [Act.put, List.setIfInBounds_toArray, List.set_cons_zero, List.set_cons_succ]
              refine htake_4 (.pointer (some ⟨pb, po + j * 4, none⟩)) (by kernel_rfl) (by kernel_rfl) (by kernel_rfl) rfl (fun _ _ _ h => h) (fun w' hSw => by (obtain ⟨s0, s1, s2, s3⟩ := hSw; go_simp)) hS0 ?_
              try simp only [Act.put, List.setIfInBounds_toArray, List.set_cons_zero, List.set_cons_succ]
              refine htake_5 (.pointer (some ⟨pb, po + j * 4 + 1, none⟩)) (by kernel_rfl) (by kernel_rfl) (by kernel_rfl) rfl (fun _ _ _ h => h) (fun w' hSw => by (obtain ⟨s0, s1, s2, s3⟩ := hSw; go_simp)) hS0 ?_
              try simp only [Act.put, List.setIfInBounds_toArray, List.set_cons_zero, List.set_cons_succ]
              refine htake_6 (.int .i64 p.ip) (by kernel_rfl) (by kernel_rfl) (by kernel_rfl) rfl (fun _ _ _ h => h) (fun w' hSw => by (obtain ⟨s0, s1, s2, s3⟩ := hSw; go_simp)) hS0 ?_
              try simp only [Act.put, List.setIfInBounds_toArray, List.set_cons_zero, List.set_cons_succ]
              refine hone_7 (by kernel_rfl) rfl (fun K hK => ?_)
              go_simp
              go_at_call 24
              refine (HAT.out wb.drew ((Below.refl _ wb).drew)).mono ?_
              rintro e w4 ⟨rfl, hb4⟩
              have HB4 := hid (show Below wb.heap.size wb w4 from ((Below.refl _ wb).drew).trans hb4)
              have hB4 := HB4.out
              have r0 := cell_to x0 hB4
              have r1 := cell_to x1 hB4
              have rm := cell_to zm hB4
              have t0 := cell_to q0 hB4
              have t1 := cell_to q1 hB4
              have t2 := cell_to q2 hB4
              have t3 := cell_to q3 hB4
              clear hb4 hB4
              refine hK _ _ ⟨r0, r1, rm, t1⟩ ?_
              refine wpAnyH_done (by kernel_rfl) ?_ _
              show wpList _ _ _ _ _ _
              try simp only [Act.put, List.setIfInBounds_toArray, List.set_cons_zero, List.set_cons_succ]
              clear hK hS0 HS0
              go_wp2_with fail
              refine (HADD.out w4 HB4.out).mono ?_
              rintro e w5 ⟨rfl, hc⟩
              obtain ⟨hst5, hfr5⟩ := (HST.out.below HB4.out).keep (by rw [hra]; exact (show ¬ (1 : Int) = 0 by decide)) hc
              have HST5 := hid hst5
              have HFR5 := hid (HFR.out.trans ((Ffr.below HB4.out).trans hfr5))
              have s0 : w5.cell? ⟨cb, 0, none⟩ = some (.slice xa D.pods.length xn) := (blk_cell hst5.2.1 0).trans rfl
              clear hc hst5 hfr5 r0 r1 rm t0 t1 t2 t3 hra hix
              go_wp2
              exact ⟨⟨j + 1, D, xa, ya, xn, yn, by omega, by go_num, HST5.out, HFR5.out⟩, by simp [intOf]; omega⟩
          · rw [if_neg h8] at hra
            have z8 : ¬ 8 ≤ (D.pods.length : Int) := by omega
            by_cases htk : podAt D.pods p.ip = none
            · rw [if_pos ⟨HPO.out, htk⟩] at hra
              have hx1 : ¬ 0 ≤ ix := by rw [hix, podAt_ixn htk]; omega
              rw [hra] at HADD
              go_wp2_with fail
              have HS0 : wb.drew.cell? ⟨cb, 0, none⟩ = some (.slice xa D.pods.length xn) ∧ wb.drew.cell? ⟨cb, 1, none⟩ = some (.slice ya D.pols.length yn) ∧ wb.drew.cell? ⟨mb, 0, none⟩ = some (.slice (some ⟨pb, po, none⟩) M.pods.length o) ∧ wb.drew.cell? ⟨pb, po + j * 4 + 1, none⟩ = some (.int .i64 p.ip) := ⟨x0, x1, zm, q1⟩
              refine wp_region_held_tail (S := (fun w' : World => w'.cell? ⟨cb, 0, none⟩ = some (.slice xa D.pods.length xn) ∧ w'.cell? ⟨cb, 1, none⟩ = some (.slice ya D.pols.length yn) ∧ w'.cell? ⟨mb, 0, none⟩ = some (.slice (some ⟨pb, po, none⟩) M.pods.length o) ∧ w'.cell? ⟨pb, po + j * 4 + 1, none⟩ = some (.int .i64 p.ip))) 8 (by kernel_rfl) (by kernel_rfl) ?_
              simp only [takes_8, drops_8]
              have hS0 : (fun w' : World => w'.cell? ⟨cb, 0, none⟩ = some (.slice xa D.pods.length xn) ∧ w'.cell? ⟨cb, 1, none⟩ = some (.slice ya D.pols.length yn) ∧ w'.cell? ⟨mb, 0, none⟩ = some (.slice (some ⟨pb, po, none⟩) M.pods.length o) ∧ w'.cell? ⟨pb, po + j * 4 + 1, none⟩ = some (.int .i64 p.ip)) wb.drew := HS0
              refine htake_0 (.agg #[.slice xa D.pods.length xn, .slice ya D.pols.length yn]) (by kernel_rfl) (by kernel_rfl) (by kernel_rfl) rfl (fun _ _ _ h => h) (fun w' hSw => by (obtain ⟨s0, s1, s2, s3⟩ := hSw; go_simp)) hS0 ?_
              try simp only [Act.put, List.setIfInBounds_toArray, List.set_cons_zero, List.set_cons_succ]
              refine htake_1 (.pointer (some ⟨mb, 0, none⟩)) (by kernel_rfl) (by kernel_rfl) (by kernel_rfl) rfl (fun _ _ _ h => h) (fun w' hSw => by (obtain ⟨s0, s1, s2, s3⟩ := hSw; go_simp)) hS0 ?_
              try simp only [Act.put, List.setIfInBounds_toArray, List.set_cons_zero, List.set_cons_succ]
              refine htake_2 (.slice (some ⟨pb, po, none⟩) M.pods.length o) (by kernel_rfl) (by kernel_rfl) (by kernel_rfl) rfl (fun _ _ _ h => h) (fun w' hSw => by (obtain ⟨s0, s1, s2, s3⟩ := hSw; go_simp)) hS0 ?_
              try simp only [Act.put, List.setIfInBounds_toArray, List.set_cons_zero, List.set_cons_succ]
              refine htake_3 (.int .i64 (j : Int)) (by kernel_rfl) (by kernel_rfl) (by kernel_rfl) rfl (fun _ _ _ h => h) (fun w' hSw => by (obtain ⟨s0, s1, s2, s3⟩ := hSw; go_simp)) hS0 ?_
              try simp only [Act.put, List.setIfInBounds_toArray, List.set_cons_zero, List.set_cons_succ]
              refine htake_4 (.pointer (some ⟨pb, po + j * 4, none⟩)) (by kernel_rfl) (by kernel_rfl) (by kernel_rfl) rfl (fun _ _ _ h => h) (fun w' hSw => by (obtain ⟨s0, s1, s2, s3⟩ := hSw; go_simp)) hS0 ?_
              try simp only [Act.put, List.setIfInBounds_toArray, List.set_cons_zero, List.set_cons_succ]
              refine htake_5 (.pointer (some ⟨pb, po + j * 4 + 1, none⟩)) (by kernel_rfl) (by kernel_rfl) (by kernel_rfl) rfl (fun _ _ _ h => h) (fun w' hSw => by (obtain ⟨s0, s1, s2, s3⟩ := hSw; go_simp)) hS0 ?_
              try simp only [Act.put, List.setIfInBounds_toArray, List.set_cons_zero, List.set_cons_succ]
              refine htake_6 (.int .i64 p.ip) (by kernel_rfl) (by kernel_rfl) (by kernel_rfl) rfl (fun _ _ _ h => h) (fun w' hSw => by (obtain ⟨s0, s1, s2, s3⟩ := hSw; go_simp)) hS0 ?_
              try simp only [Act.put, List.setIfInBounds_toArray, List.set_cons_zero, List.set_cons_succ]
              refine hone_7 (by kernel_rfl) rfl (fun K hK => ?_)
              go_simp
              go_at_call 24
              refine (HAT.out wb.drew ((Below.refl _ wb).drew)).mono ?_
              rintro e w4 ⟨rfl, hb4⟩
              have HB4 := hid (show Below wb.heap.size wb w4 from ((Below.refl _ wb).drew).trans hb4)
              have hB4 := HB4.out
              have r0 := cell_to x0 hB4
              have r1 := cell_to x1 hB4
              have rm := cell_to zm hB4
              have t0 := cell_to q0 hB4
              have t1 := cell_to q1 hB4
              have t2 := cell_to q2 hB4
              have t3 := cell_to q3 hB4
              clear hb4 hB4
              refine hK _ _ ⟨r0, r1, rm, t1⟩ ?_
              refine wpAnyH_done (by kernel_rfl) ?_ _
              show wpList _ _ _ _ _ _
              try simp only [Act.put, List.setIfInBounds_toArray, List.set_cons_zero, List.set_cons_succ]
              clear hK hS0 HS0
              go_wp2_with fail
              refine (HADD.out w4 HB4.out).mono ?_
              rintro e w5 ⟨rfl, hc⟩
              have hg5 := (hc.1 (by rw [hra])).2
              have HC := hid hc
              have HRR := hid (show (right ⟨D.pods ++ [p], D.pols⟩).1 = 0 by rw [hra])
              have HSTZ := hid (HST.out.below HB4.out)
              have kc5 := (hg5.block cb (by have := HBIG.out.1; have := HB4.out.size; omega) (fun e => by cases e; exact HST.out.1.2.2.2 rfl)).trans HSTZ.out.2.1
              have km5 := (hg5.block mb (by have := (Array.getElem?_eq_some_iff.1 KMB.out).1; have := HB4.out.size; omega) (fun e => by cases e; have := HLT.out; omega)).trans ((HB4.out.block mb (Array.getElem?_eq_some_iff.1 KMB.out).1).trans KMB.out)
              have a0 : w5.cell? ⟨cb, 0, none⟩ = some (.slice xa D.pods.length xn) := (blk_cell kc5 0).trans rfl
              have a1 : w5.cell? ⟨mb, 0, none⟩ = some (.slice (some ⟨pb, po, none⟩) M.pods.length o) := (blk_cell km5 0).trans rfl
              have b0 := hg5.cell t0 (fun e => by cases e; exact HPB.out.1 rfl)
              have b1 := hg5.cell t1 (fun e => by cases e; exact HPB.out.1 rfl)
              have b2 := hg5.cell t2 (fun e => by cases e; exact HPB.out.1 rfl)
              have b3 := hg5.cell t3 (fun e => by cases e; exact HPB.out.1 rfl)
              have KC5 := hid kc5
              have KM5 := hid km5
              have HRP5 := hid (show rdPods w5.heap.size w5 xa D.pods from rdPods.sub (Sub.trans (Ffr.gb hg5).sub (Sub.show _ _)) hg5.size HSTZ.out.2.2.1)
              have hDl : D.pods.length ≤ 8 := HRL.out.1
              clear hc hg5 kc5 km5 r0 r1 rm t0 t1 t2 t3 hra hix
              obtain ⟨ip0, hip, ipz0, ipz1, ipz2⟩ := info_parts info_pod
              go_upto_region 28 with (at_builtin; go_must (refine wpList_append_list _ rfl _ _ 25 rfl w5.heap.size 54 ip0 _ 4 32 Tryz.underlying25 hip ipz0 ipz1 ipz2 rfl (by decide) (.slice none 0 0) 0 [] rfl (World.ownsRow_nil _ _ _ _) xa D.pods.length xn (D.pods.flatMap encPod) rfl (oflat_len (k := 4) (fun _ => rfl) _) (news_of (k := 4) (fun _ => rfl) (by decide) HRP5.out (fun _ _ _ => ePod_cells)) (encPods_one _) (by unfold maxLen; omega) (by omega) (Nat.le_refl _) ?_); intro v6 w6 hown6 hg6)
              rw [Nat.zero_add, List.nil_append] at hown6
              obtain ⟨a6, c6, rfl, hc6, _⟩ := own_slice hown6
              have HO6 := hid hown6
              have hB6 : Below w5.heap.size w5 w6 := ⟨hg6.os, hg6.tape, hg6.output, hg6.size, fun b hb => hg6.block b hb (by simp [Value.ownBlock])⟩
              have HB6 := hid hB6
              have f0 := cell_to a0 hB6
              have f1 := cell_to a1 hB6
              have g0 := cell_to b0 hB6
              have g1 := cell_to b1 hB6
              have g2 := cell_to b2 hB6
              have g3 := cell_to b3 hB6
              clear hown6 hg6 hB6 a0 a1 b0 b1 b2 b3
              obtain ⟨L, hL⟩ : ∃ L, L = D.pods ++ [p] := ⟨_, rfl⟩
              have e1 : D.pods.length + 1 = L.length := by rw [hL]; simp
              have e2 : D.pods.flatMap encPod ++ encPod p = L.flatMap encPod := by rw [hL, List.flatMap_append]; simp
              rw [← hL] at HC HRR
              have HE1 := hid e1
              have HE2 := hid e2
              clear hL e1 e2
              go_wp2_with (at_builtin; go_must (refine wpList_append_own _ rfl _ _ 25 rfl w5.heap.size 54 ip0 _ 4 32 Tryz.underlying25 hip ipz0 ipz1 ipz2 rfl (by decide) _ _ _ rfl (HO6.out.alloc _) ⟨w6.heap.size, 0, none⟩ 1 1 (encPod p) rfl rfl (cell_new_list _ (encPod p) _) (fun u hu => by simp [encPod] at hu; rcases hu with rfl | rfl | rfl | rfl <;> rfl) (by unfold maxLen; omega) (by omega) (by have := HB6.out.size; simp; omega) ?_); intro v7 w7 hown7 hg7 hn7; rw [HE1.out, HE2.out] at hown7; obtain ⟨a7, c7, hv7, hc7, _⟩ := own_slice hown7; subst hv7; have HO7 := hid hown7; have HB7 := hid (own_below (HB6.out.alloc HB6.out.size (.cells #[.int .i64 p.host, .int .i64 p.ip, .int .i64 p.space, .int .i64 p.labels] 54)) (by have := HB6.out.size; simp; omega) (HO6.out.alloc _) hg7); have k7 := (HB7.out.block cb (by have := (Array.getElem?_eq_some_iff.1 KC5.out).1; omega)).trans KC5.out; have f7 := blk_cell k7; have fz7 := blk_frozen k7; have HC7 := hid hc7; clear hown7 hg7 hn7 k7 hc7)
              obtain ⟨hS8, hF8⟩ := Fst.pod HSTZ.out HRR.out HC.out HB7.out HO7.out HC7.out
              exact ⟨⟨j + 1, ⟨L, D.pols⟩, a7, ya, c7, yn, by omega, by go_num, hS8, HFR.out.trans ((Ffr.below HB4.out).trans hF8)⟩, by simp [intOf]; omega⟩
            · rw [if_neg (fun h => htk h.2)] at hra
              have hx0 : 0 ≤ ix := by rw [hix]; exact ixOf_some htk
              rw [hra] at HADD
              go_wp2_with fail
              have HS0 : wb.drew.cell? ⟨cb, 0, none⟩ = some (.slice xa D.pods.length xn) ∧ wb.drew.cell? ⟨cb, 1, none⟩ = some (.slice ya D.pols.length yn) ∧ wb.drew.cell? ⟨mb, 0, none⟩ = some (.slice (some ⟨pb, po, none⟩) M.pods.length o) ∧ wb.drew.cell? ⟨pb, po + j * 4 + 1, none⟩ = some (.int .i64 p.ip) := ⟨x0, x1, zm, q1⟩
              refine wp_region_held_tail (S := (fun w' : World => w'.cell? ⟨cb, 0, none⟩ = some (.slice xa D.pods.length xn) ∧ w'.cell? ⟨cb, 1, none⟩ = some (.slice ya D.pols.length yn) ∧ w'.cell? ⟨mb, 0, none⟩ = some (.slice (some ⟨pb, po, none⟩) M.pods.length o) ∧ w'.cell? ⟨pb, po + j * 4 + 1, none⟩ = some (.int .i64 p.ip))) 8 (by kernel_rfl) (by kernel_rfl) ?_
              simp only [takes_8, drops_8]
              have hS0 : (fun w' : World => w'.cell? ⟨cb, 0, none⟩ = some (.slice xa D.pods.length xn) ∧ w'.cell? ⟨cb, 1, none⟩ = some (.slice ya D.pols.length yn) ∧ w'.cell? ⟨mb, 0, none⟩ = some (.slice (some ⟨pb, po, none⟩) M.pods.length o) ∧ w'.cell? ⟨pb, po + j * 4 + 1, none⟩ = some (.int .i64 p.ip)) wb.drew := HS0
              refine htake_0 (.agg #[.slice xa D.pods.length xn, .slice ya D.pols.length yn]) (by kernel_rfl) (by kernel_rfl) (by kernel_rfl) rfl (fun _ _ _ h => h) (fun w' hSw => by (obtain ⟨s0, s1, s2, s3⟩ := hSw; go_simp)) hS0 ?_
              try simp only [Act.put, List.setIfInBounds_toArray, List.set_cons_zero, List.set_cons_succ]
              refine htake_1 (.pointer (some ⟨mb, 0, none⟩)) (by kernel_rfl) (by kernel_rfl) (by kernel_rfl) rfl (fun _ _ _ h => h) (fun w' hSw => by (obtain ⟨s0, s1, s2, s3⟩ := hSw; go_simp)) hS0 ?_
              try simp only [Act.put, List.setIfInBounds_toArray, List.set_cons_zero, List.set_cons_succ]
              refine htake_2 (.slice (some ⟨pb, po, none⟩) M.pods.length o) (by kernel_rfl) (by kernel_rfl) (by kernel_rfl) rfl (fun _ _ _ h => h) (fun w' hSw => by (obtain ⟨s0, s1, s2, s3⟩ := hSw; go_simp)) hS0 ?_
              try simp only [Act.put, List.setIfInBounds_toArray, List.set_cons_zero, List.set_cons_succ]
              refine htake_3 (.int .i64 (j : Int)) (by kernel_rfl) (by kernel_rfl) (by kernel_rfl) rfl (fun _ _ _ h => h) (fun w' hSw => by (obtain ⟨s0, s1, s2, s3⟩ := hSw; go_simp)) hS0 ?_
              try simp only [Act.put, List.setIfInBounds_toArray, List.set_cons_zero, List.set_cons_succ]
              refine htake_4 (.pointer (some ⟨pb, po + j * 4, none⟩)) (by kernel_rfl) (by kernel_rfl) (by kernel_rfl) rfl (fun _ _ _ h => h) (fun w' hSw => by (obtain ⟨s0, s1, s2, s3⟩ := hSw; go_simp)) hS0 ?_
              try simp only [Act.put, List.setIfInBounds_toArray, List.set_cons_zero, List.set_cons_succ]
              refine htake_5 (.pointer (some ⟨pb, po + j * 4 + 1, none⟩)) (by kernel_rfl) (by kernel_rfl) (by kernel_rfl) rfl (fun _ _ _ h => h) (fun w' hSw => by (obtain ⟨s0, s1, s2, s3⟩ := hSw; go_simp)) hS0 ?_
              try simp only [Act.put, List.setIfInBounds_toArray, List.set_cons_zero, List.set_cons_succ]
              refine htake_6 (.int .i64 p.ip) (by kernel_rfl) (by kernel_rfl) (by kernel_rfl) rfl (fun _ _ _ h => h) (fun w' hSw => by (obtain ⟨s0, s1, s2, s3⟩ := hSw; go_simp)) hS0 ?_
              try simp only [Act.put, List.setIfInBounds_toArray, List.set_cons_zero, List.set_cons_succ]
              refine hone_7 (by kernel_rfl) rfl (fun K hK => ?_)
              go_simp
              go_at_call 24
              refine (HAT.out wb.drew ((Below.refl _ wb).drew)).mono ?_
              rintro e w4 ⟨rfl, hb4⟩
              have HB4 := hid (show Below wb.heap.size wb w4 from ((Below.refl _ wb).drew).trans hb4)
              have hB4 := HB4.out
              have r0 := cell_to x0 hB4
              have r1 := cell_to x1 hB4
              have rm := cell_to zm hB4
              have t0 := cell_to q0 hB4
              have t1 := cell_to q1 hB4
              have t2 := cell_to q2 hB4
              have t3 := cell_to q3 hB4
              clear hb4 hB4
              refine hK _ _ ⟨r0, r1, rm, t1⟩ ?_
              refine wpAnyH_done (by kernel_rfl) ?_ _
              show wpList _ _ _ _ _ _
              try simp only [Act.put, List.setIfInBounds_toArray, List.set_cons_zero, List.set_cons_succ]
              clear hK hS0 HS0
              go_wp2_with fail
              refine (HADD.out w4 HB4.out).mono ?_
              rintro e w5 ⟨rfl, hc⟩
              obtain ⟨hst5, hfr5⟩ := (HST.out.below HB4.out).keep (by rw [hra]; exact (show ¬ (2 : Int) = 0 by decide)) hc
              have HST5 := hid hst5
              have HFR5 := hid (HFR.out.trans ((Ffr.below HB4.out).trans hfr5))
              have s0 : w5.cell? ⟨cb, 0, none⟩ = some (.slice xa D.pods.length xn) := (blk_cell hst5.2.1 0).trans rfl
              clear hc hst5 hfr5 r0 r1 rm t0 t1 t2 t3 hra hix
              go_wp2
              exact ⟨⟨j + 1, D, xa, ya, xn, yn, by omega, by go_num, HST5.out, HFR5.out⟩, by simp [intOf]; omega⟩
        · have zj : ¬ (j : Int) < (M.pods.length : Int) := by omega
          have zm1 : wb.cell? ⟨mb, 1, none⟩ = some (.slice b' M.pols.length o') := (blk_cell KMB.out 1).trans rfl
          go_wp2_with fail
          clear zm zm1 KMB HBIG
          go_loopw [20] (fun i wr => ∃ (j : Nat) (D : DClu) (xa ya : Option Addr) (xn yn : Nat), j ≤ M.pols.length ∧ i = .int .i64 j ∧ Fst tb cb D xa ya xn yn wr ∧ Ffr tb cb wT wr) (fun i _ => M.pols.length - (intOf i).toNat)
          case atStart => exact ⟨0, D, xa, ya, xn, yn, Nat.zero_le _, rfl, HST.out, HFR.out⟩
          case round =>
            clear HST HFR hj zj hlt
            obtain ⟨j, D, xa, ya, xn, yn, hj, rfl, hst, hfr⟩ := hrel
            obtain ⟨wd, hwd⟩ : ∃ wd, wd = wr := ⟨_, rfl⟩
            subst hwd
            have HST := hid hst
            have HFR := hid hfr
            have KMB := hid ((hfr.2 mb (by have := HLT.out; omega) (by have := HLT.out; omega) (by have := HLT.out; omega)).trans KMT.out)
            have HBIG := hid (show cb < wd.heap.size ∧ tb < wd.heap.size from ⟨(Array.getElem?_eq_some_iff.1 hst.2.1).1, by have := HLT.out; have := hfr.1.2.2.2; omega⟩)
            clear hst hfr
            have zm : wd.cell? ⟨mb, 1, none⟩ = some (.slice b' M.pols.length o') := (blk_cell KMB.out 1).trans rfl
            by_cases hlt : j < M.pols.length
            · have zj : (j : Int) < (M.pols.length : Int) := by omega
              obtain ⟨q, hq⟩ : ∃ q, M.pols[j]? = some q := ⟨M.pols[j], List.getElem?_eq_getElem hlt⟩
              have HPO := hid ((right_zero HMR.out).2 q (List.mem_of_getElem? hq))
              obtain ⟨pb, po, rfl, hpb, e0, e1, e2, e3, ⟨oa, oc, e4, e6⟩, ia, ic, e5, e7⟩ := HMQ2.out.2 j q hq
              have q0 : wd.cell? ⟨pb, po + j * 6, none⟩ = some (.int .i64 q.space) := (hide_out (HFR.out.sub _ _ _ e0)).2.2
              have q1 : wd.cell? ⟨pb, po + j * 6 + 1, none⟩ = some (.int .i64 q.need) := (hide_out (HFR.out.sub _ _ _ e1)).2.2
              have q2 : wd.cell? ⟨pb, po + j * 6 + 2, none⟩ = some (.int .i64 q.ban) := (hide_out (HFR.out.sub _ _ _ e2)).2.2
              have q3 : wd.cell? ⟨pb, po + j * 6 + 3, none⟩ = some (.int .i64 q.ways) := (hide_out (HFR.out.sub _ _ _ e3)).2.2
              have q4 : wd.cell? ⟨pb, po + j * 6 + 4, none⟩ = some (.slice oa q.outs.length oc) := (hide_out (HFR.out.sub _ _ _ e4)).2.2
              have q5 : wd.cell? ⟨pb, po + j * 6 + 5, none⟩ = some (.slice ia q.ins.length ic) := (hide_out (HFR.out.sub _ _ _ e5)).2.2
              have HRO := hid (show (⟨q, .slice oa q.outs.length oc, .slice ia q.ins.length ic⟩ : RPol).ok wd.heap.size (hide wd (gF tb cb)) from ⟨⟨oa, oc, rfl, rdRules.sub HFR.out.sub HFR.out.1.2.2.2 e6⟩, ia, ic, rfl, rdRules.sub HFR.out.sub HFR.out.1.2.2.2 e7⟩)
              have HPB := hid (gF_false.1 (hide_out e0).1)
              have x1 : wd.cell? ⟨cb, 1, none⟩ = some (.slice ya D.pols.length yn) := (blk_cell HST.out.2.1 1).trans rfl
              have HADD := hid (show Calls Tryz.prog 28 #[.pointer (some ⟨tb, 0, none⟩), .agg #[.int .i64 q.space, .int .i64 q.need, .int .i64 q.ban, .int .i64 q.ways, .slice oa q.outs.length oc, .slice ia q.ins.length ic]] wd fun e w' => e = .returned (.int .i64 (right ⟨D.pods, D.pols ++ [q]⟩).1) ∧ Chg tb ⟨D.pods, D.pols ++ [q]⟩ wd w' from by
                obtain ⟨⟨h1, h2, h3, h4⟩, h5, h6, h7, u0, u1, u2, h8, r, vs, ta, tq, tpc, tqc, rfl, rfl, rfl, _, g5, g6, rp, rq, _⟩ := HST.out
                exact addPol_any q oa ia oc ic tb _ D ta tq tpc tqc wd h8 (rdPods.sub (Sub.show _ _) (Nat.le_refl _) rp) (rdPols.sub (Sub.show _ _) (Nat.le_refl _) rq) g5 g6 h1 (rdRules.sub (Sub.trans HFR.out.sub (Sub.show _ _)) HFR.out.1.2.2.2 e6) (rdRules.sub (Sub.trans HFR.out.sub (Sub.show _ _)) HFR.out.1.2.2.2 e7))
              have hra := right_addPol HST.out.1.1 q
              have HRL := hid (right_lens HST.out.1.1)
              clear hq e0 e1 e2 e3 e4 e5 e6 e7
              by_cases h4 : 4 ≤ D.pols.length
              · rw [if_pos h4] at hra
                have z4 : 4 ≤ (D.pols.length : Int) := by omega
                rw [hra] at HADD
                go_wp2_with fail
                refine HADD.out.mono ?_
                rintro e w5 ⟨rfl, hc⟩
                obtain ⟨hst5, hfr5⟩ := HST.out.keep (by rw [hra]; exact (show ¬ (1 : Int) = 0 by decide)) hc
                have HST5 := hid hst5
                have HFR5 := hid (HFR.out.trans hfr5)
                have s0 : w5.cell? ⟨cb, 1, none⟩ = some (.slice ya D.pols.length yn) := (blk_cell hst5.2.1 1).trans rfl
                clear hc hst5 hfr5 hra q0 q1 q2 q3 q4 q5 x1
                go_wp2
                exact ⟨⟨j + 1, D, xa, ya, xn, yn, by omega, by go_num, HST5.out, HFR5.out⟩, by simp [intOf]; omega⟩
              · rw [if_neg h4, if_pos HPO.out] at hra
                have z4 : ¬ 4 ≤ (D.pols.length : Int) := by omega
                rw [hra] at HADD
                go_wp2_with fail
                refine HADD.out.mono ?_
                rintro e w5 ⟨rfl, hc⟩
                have hg5 := (hc.1 (by rw [hra])).2
                have HC := hid hc
                have HRR := hid (show (right ⟨D.pods, D.pols ++ [q]⟩).1 = 0 by rw [hra])
                have kc5 := (hg5.block cb HBIG.out.1 (fun e => by cases e; exact HST.out.1.2.2.2 rfl)).trans HST.out.2.1
                have km5 := (hg5.block mb (Array.getElem?_eq_some_iff.1 KMB.out).1 (fun e => by cases e; have := HLT.out; omega)).trans KMB.out
                have a0 : w5.cell? ⟨cb, 1, none⟩ = some (.slice ya D.pols.length yn) := (blk_cell kc5 1).trans rfl
                have a1 : w5.cell? ⟨mb, 1, none⟩ = some (.slice (some ⟨pb, po, none⟩) M.pols.length o') := (blk_cell km5 1).trans rfl
                have b0 := hg5.cell q0 (fun e => by cases e; exact HPB.out.1 rfl)
                have b1 := hg5.cell q1 (fun e => by cases e; exact HPB.out.1 rfl)
                have b2 := hg5.cell q2 (fun e => by cases e; exact HPB.out.1 rfl)
                have b3 := hg5.cell q3 (fun e => by cases e; exact HPB.out.1 rfl)
                have b4 := hg5.cell q4 (fun e => by cases e; exact HPB.out.1 rfl)
                have b5 := hg5.cell q5 (fun e => by cases e; exact HPB.out.1 rfl)
                have KC5 := hid kc5
                obtain ⟨R, hR, hrd, hok⟩ := pols_cells HST.out.2.2.2.1
                have hRl : R.length = D.pols.length := by rw [← hR, List.length_map]
                have HRD5 := hid (cells_sub (Sub.trans (Ffr.gb (cb := cb) hg5).sub (Sub.show _ _)) hg5.size hrd)
                have HOK := hid hok
                have HRl := hid hRl
                have HR := hid hR
                have hDl : D.pols.length ≤ 4 := HRL.out.2
                clear hc hg5 kc5 km5 hra q0 q1 q2 q3 q4 q5 x1 hR hrd hok hRl
                obtain ⟨ip0, hip, ipz0, ipz1, ipz2⟩ := info_parts info_pol
                go_upto_region 38 with (at_builtin; go_must (refine wpList_append_list _ rfl _ _ 26 rfl w5.heap.size 59 ip0 _ 6 80 Tryz.underlying26 hip ipz0 ipz1 ipz2 rfl (by decide) (.slice none 0 0) 0 [] rfl (World.ownsRow_nil _ _ _ _) ya D.pols.length yn (R.flatMap encPol) rfl ((oflat_len (k := 6) (fun _ => rfl) _).trans (by rw [HRl.out])) (news_of (k := 6) (fun _ => rfl) (by decide) HRD5.out (fun _ _ _ h => h)) (encPols_ones HOK.out) (by unfold maxLen; omega) (by omega) (Nat.le_refl _) ?_); intro v6 w6 hown6 hg6)
                rw [Nat.zero_add, List.nil_append] at hown6
                obtain ⟨a6, c6, rfl, hc6, _⟩ := own_slice hown6
                have HO6 := hid hown6
                have hB6 : Below w5.heap.size w5 w6 := ⟨hg6.os, hg6.tape, hg6.output, hg6.size, fun b hb => hg6.block b hb (by simp [Value.ownBlock])⟩
                have HB6 := hid hB6
                have f0 := cell_to a0 hB6
                have f1 := cell_to a1 hB6
                have g0 := cell_to b0 hB6
                have g1 := cell_to b1 hB6
                have g2 := cell_to b2 hB6
                have g3 := cell_to b3 hB6
                have g4 := cell_to b4 hB6
                have g5 := cell_to b5 hB6
                clear hown6 hg6 hB6 a0 a1 b0 b1 b2 b3 b4 b5
                obtain ⟨L, hL⟩ : ∃ L, L = D.pols ++ [q] := ⟨_, rfl⟩
                obtain ⟨r, hr⟩ : ∃ r : RPol, r = ⟨q, .slice oa q.outs.length oc, .slice ia q.ins.length ic⟩ := ⟨_, rfl⟩
                have e1 : D.pols.length + 1 = L.length := by rw [hL]; simp
                have HE2 := hid (show R.flatMap encPol ++ encPol r = (R ++ [r]).flatMap encPol by rw [List.flatMap_append]; simp)
                have HRM := hid (show (R ++ [r]).map (·.d) = L by rw [hL, List.map_append, HR.out, hr]; rfl)
                have HRK := hid (show ∀ x ∈ R ++ [r], x.ok wd.heap.size (hide wd (gF tb cb)) from fun x hx => by
                  rcases List.mem_append.1 hx with hx | hx
                  · exact HOK.out x hx
                  · rw [List.mem_singleton] at hx; subst hx; rw [hr]; exact HRO.out)
                have HEN := hid (show [.int .i64 q.space, .int .i64 q.need, .int .i64 q.ban, .int .i64 q.ways, .slice oa q.outs.length oc, .slice ia q.ins.length ic] = encPol r by rw [hr]; rfl)
                rw [← hL] at HC HRR
                have HE1 := hid e1
                clear hL e1 hr
                go_wp2_with (at_builtin; go_must (refine wpList_append_own _ rfl _ _ 26 rfl w5.heap.size 59 ip0 _ 6 80 Tryz.underlying26 hip ipz0 ipz1 ipz2 rfl (by decide) _ _ _ rfl (HO6.out.alloc _) ⟨w6.heap.size, 0, none⟩ 1 1 [.int .i64 q.space, .int .i64 q.need, .int .i64 q.ban, .int .i64 q.ways, .slice oa q.outs.length oc, .slice ia q.ins.length ic] rfl rfl (cell_new_list _ [.int .i64 q.space, .int .i64 q.need, .int .i64 q.ban, .int .i64 q.ways, .slice oa q.outs.length oc, .slice ia q.ins.length ic] _) (fun u hu => by simp at hu; rcases hu with rfl | rfl | rfl | rfl | rfl | rfl <;> rfl) (by unfold maxLen; omega) (by omega) (by have := HB6.out.size; simp; omega) ?_); intro v7 w7 hown7 hg7 hn7; rw [HEN.out, HE1.out, HE2.out] at hown7; obtain ⟨a7, c7, hv7, hc7, _⟩ := own_slice hown7; subst hv7; have HO7 := hid hown7; have HB7 := hid (own_below (HB6.out.alloc HB6.out.size (.cells #[.int .i64 q.space, .int .i64 q.need, .int .i64 q.ban, .int .i64 q.ways, .slice oa q.outs.length oc, .slice ia q.ins.length ic] 59)) (by have := HB6.out.size; simp; omega) (HO6.out.alloc _) hg7); have k7 := (HB7.out.block cb (by have := (Array.getElem?_eq_some_iff.1 KC5.out).1; omega)).trans KC5.out; have f7 := blk_cell k7; have fz7 := blk_frozen k7; have HC7 := hid hc7; clear hown7 hg7 hn7 k7 hc7)
                obtain ⟨hS8, hF8⟩ := Fst.pol HST.out HRR.out HC.out HB7.out HRM.out HRK.out (by rw [show (R ++ [r]).length = L.length by rw [← HRM.out, List.length_map]]; exact HO7.out) HC7.out
                exact ⟨⟨j + 1, ⟨D.pods, L⟩, xa, a7, xn, c7, by omega, by go_num, hS8, HFR.out.trans hF8⟩, by simp [intOf]; omega⟩
            · have zj : ¬ (j : Int) < (M.pols.length : Int) := by omega
              have HBw := hid (show Below w.heap.size w wd from HBwT.out.trans (HFR.out.under (by have := HLT.out; omega) (by have := HLT.out; omega) (by have := HLT.out; omega)))
              have KQD := (HFR.out.2 (w.heap.size + 1 + 1) (by have := HLT.out; omega) (by have := HLT.out; omega) (by have := HLT.out; omega)).trans KQT.out
              have k0 : wd.cell? ⟨w.heap.size + 1 + 1, 0, none⟩ = some (.int .i64 k.src) := (blk_cell KQD 0).trans rfl
              have k1 : wd.cell? ⟨w.heap.size + 1 + 1, 1, none⟩ = some (.int .i64 k.dst) := (blk_cell KQD 1).trans rfl
              have k2 : wd.cell? ⟨w.heap.size + 1 + 1, 2, none⟩ = some (.int .i64 k.proto) := (blk_cell KQD 2).trans rfl
              have k3 : wd.cell? ⟨w.heap.size + 1 + 1, 3, none⟩ = some (.int .i64 k.port) := (blk_cell KQD 3).trans rfl
              have x0 : wd.cell? ⟨cb, 0, none⟩ = some (.slice xa D.pods.length xn) := (blk_cell HST.out.2.1 0).trans rfl
              have x1 : wd.cell? ⟨cb, 1, none⟩ = some (.slice ya D.pols.length yn) := (blk_cell HST.out.2.1 1).trans rfl
              have HIPS := hid (show ∀ p ∈ D.pods, 0 ≤ p.ip ∧ p.ip ≤ 4294967295 from fun p hp => (podOk_true.1 ((right_zero HST.out.1.1).1.1 p hp)).2.1)
              obtain ⟨i0, i1, i2, i3⟩ := HK.out
              clear KQD
              go_wp2_with fail
              refine (mkPkt_any D.pods k xa ya xn D.pols.length yn wd (rdPods.sub (Sub.show _ _) (Nat.le_refl _) HST.out.2.2.1) HIPS.out i0 i1 i2 i3).mono ?_
              rintro e w5 ⟨⟨x, rfl, hx⟩, hb5⟩
              have HPX := hid hx
              have HB5 := hid hb5
              have y0 := cell_to x0 hb5
              have y1 := cell_to x1 hb5
              clear hx hb5 k0 k1 k2 k3 x0 x1 zm zj i0 i1 i2 i3
              go_wp2_with fail
              generalize hY : w5.alloc (.cells #[.int .i64 x.src, .int .i64 x.dst, .int .i64 x.proto, .int .i64 x.port] 30) = Y
              have HBY := hid (show Below wd.heap.size wd Y from by rw [← hY]; exact HB5.out.alloc HB5.out.size _)
              have p0 : Y.cell? ⟨w5.heap.size, 0, none⟩ = some (.int .i64 x.src) := by rw [← hY]; simp [go_sem]
              have p1 : Y.cell? ⟨w5.heap.size, 1, none⟩ = some (.int .i64 x.dst) := by rw [← hY]; simp [go_sem]
              have p2 : Y.cell? ⟨w5.heap.size, 2, none⟩ = some (.int .i64 x.proto) := by rw [← hY]; simp [go_sem]
              have p3 : Y.cell? ⟨w5.heap.size, 3, none⟩ = some (.int .i64 x.port) := by rw [← hY]; simp [go_sem]
              clear hY y0 y1
              have HSTY := hid (HST.out.below HBY.out)
              refine (keepAllowed_any D x xa ya xn yn Y (rdPods.sub (Sub.show _ _) (Nat.le_refl _) HSTY.out.2.2.1) (rdPols.sub (Sub.show _ _) (Nat.le_refl _) HSTY.out.2.2.2.1) HST.out.1.2.1 HST.out.1.1 HPX.out).mono ?_
              rintro e w6 ⟨rfl, hb6⟩
              have HB6 := hid (Ext.trans HBY.out hb6)
              have s0 := cell_to p0 hb6
              have s1 := cell_to p1 hb6
              have s2 := cell_to p2 hb6
              have s3 := cell_to p3 hb6
              have HADM := hid (show ∃ T, TabsAs w6.heap.size w6 tb D T from by
                obtain ⟨_, _, _, _, u0, u1, u2, h8, h9⟩ := HSTY.out.below hb6
                exact (h9.at h8).as)
              clear hb6 p0 p1 p2 p3
              obtain ⟨T, hT⟩ := HADM.out
              have HTT := hid hT
              clear hT
              go_wp2_with fail
              refine (admits_any D T tb x w6 HTT.out HPX.out (right_zero HST.out.1.1)).mono ?_
              rintro e w7 ⟨rfl, hb7⟩
              have HB7 := hid (Ext.trans (Ext.trans HBw.out HB6.out) hb7)
              clear hb7 s0 s1 s2 s3
              generalize (may D 1 x x.src x.dst && may D 2 x x.dst x.src) = vv
              go_wp2
              go_ret
              exact ⟨by simp, HB7.out⟩
end Go.Proofs.YtmkjlhplgcifiaaGreat
