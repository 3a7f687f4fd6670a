/-
  palisadekeep: Grown, walked: no room for a policy more.
-/
import Derived.Test.YtmkjlhplgcifiaaGreatJ50
import Derived.Test.YtmkjlhplgcifiaaGreatJ53
import Derived.Test.YtmkjlhplgcifiaaGreatJ51
namespace Go.Proofs.YtmkjlhplgcifiaaGreat
open Go.ChangeShapes Go.WideShapes Go.ChangeAt Go.RowKit
attribute [local simp] World.cell?_grow
attribute [local go_sem] World.cell?_grow
attribute [local simp] World.cell?_alloc_there
attribute [local go_sem] World.cell?_alloc_there
attribute [local go_sem] eqg_blk std_blk eqg_pod std_pod eqg_sel std_sel eqg_prt std_prt
attribute [local go_sem ↓] eql_blk eql_sel neq_sel eql_prt eql_pod
attribute [local go_sem ↓] met_in1 met_in2 met_re1 met_re2
attribute [local go_sem ↓] met_has1 met_has2
attribute [local go_sem ↓] met_bl1 met_bl2
attribute [local go_sem] eqg_row std_row
attribute [local go_sem ↓] neq_row
set_option linter.unusedVariables false
set_option linter.unusedSimpArgs false
set_option maxRecDepth 100000 in
set_option maxHeartbeats 8000000 in
theorem grown_neg (c : DClu) (r : DRule) (which space : Int) (k : DPkt) (pa qa ra sa : Option Addr) (pc qc rc sc : Nat) (w : World) (hp : rdPods w.heap.size w pa c.pods) (hq : rdPols w.heap.size w qa c.pols) (hrp : rdPeers w.heap.size w ra r.peers) (hrq : rdPorts w.heap.size w sa r.ports) (hi : iClu c) (hir : iRule r) (hwh : i64 which) (hsp : i64 space) (hk : iPkt k) (h4 : ¬ (mkClu c).pols.length < 4) :
    Calls Tryz.prog 7 #[.agg #[.slice pa c.pods.length pc, .slice qa c.pols.length qc], .int .i64 which, .agg #[.slice ra r.peers.length rc, .slice sa r.ports.length sc], .int .i64 space, .agg #[.int .i64 k.src, .int .i64 k.dst, .int .i64 k.proto, .int .i64 k.port]] w fun e w' => e = .returned (.bool true) ∧ Below w.heap.size w w' := by
  have HP := hid hp
  have HQ := hid hq
  have HRP := hid hrp
  have HRQ := hid hrq
  have HI := hid hi
  have HIR := hid hir
  have HWH := hid hwh
  have HSP := hid hsp
  have HK := hid hk
  clear hp hq hrp hrq hi hir hwh hsp hk
  go_enter Tryz.func7, Tryz.ntmps7
  go_wp2_with fail
  generalize hW : ((w.alloc (Obj.cells #[.slice pa c.pods.length pc, .slice qa c.pols.length qc] 28)).alloc (Obj.cells #[.slice ra r.peers.length rc, .slice sa r.ports.length sc] 64)).alloc (Obj.cells #[.int .i64 k.src, .int .i64 k.dst, .int .i64 k.proto, .int .i64 k.port] 30) = W
  have HSW := hid (show W.heap.size = w.heap.size + 3 by rw [← hW]; simp)
  have HBW := hid (show Below w.heap.size w W from by rw [← hW]; exact (by repeat (first | exact Below.refl _ _ | assumption | apply Ext.alloc | apply Ext.drewN | apply Ext.drew | refine Ext.trans ?_ (by assumption))))
  have c0 : W.cell? ⟨w.heap.size, 0, none⟩ = some (.slice pa c.pods.length pc) := by rw [← hW]; simp [go_sem]
  have c1 : W.cell? ⟨w.heap.size, 1, none⟩ = some (.slice qa c.pols.length qc) := by rw [← hW]; simp [go_sem]
  have KR := hid (show W.heap[w.heap.size + 1]? = some (.cells #[.slice ra r.peers.length rc, .slice sa r.ports.length sc] 64 (0, 0)) from by
    rw [← hW]
    have := new_heap (w.alloc (Obj.cells #[.slice pa c.pods.length pc, .slice qa c.pols.length qc] 28)) (.cells #[.slice ra r.peers.length rc, .slice sa r.ports.length sc] 64)
    simp only [World.size_alloc] at this
    exact (Below.heap_alloc _ _ _ (by simp)).trans this)
  have k0 : W.cell? ⟨w.heap.size + 1 + 1, 0, none⟩ = some (.int .i64 k.src) := by rw [← hW]; simp [go_sem]
  have k1 : W.cell? ⟨w.heap.size + 1 + 1, 1, none⟩ = some (.int .i64 k.dst) := by rw [← hW]; simp [go_sem]
  have k2 : W.cell? ⟨w.heap.size + 1 + 1, 2, none⟩ = some (.int .i64 k.proto) := by rw [← hW]; simp [go_sem]
  have k3 : W.cell? ⟨w.heap.size + 1 + 1, 3, none⟩ = some (.int .i64 k.port) := by rw [← hW]; simp [go_sem]
  clear hW
  refine (awake_any W).mono ?_
  rintro e wA ⟨rfl, hbA⟩
  have HBA := hid (Ext.trans HBW.out hbA)
  have HSA := hid (show w.heap.size + 3 ≤ wA.heap.size by have := HSW.out; have := hbA.size; omega)
  have KRA := hid ((hbA.block (w.heap.size + 1) (by have := HSW.out; omega)).trans KR.out)
  have d0 := cell_to c0 hbA
  have d1 := cell_to c1 hbA
  have l0 := cell_to k0 hbA
  have l1 := cell_to k1 hbA
  have l2 := cell_to k2 hbA
  have l3 := cell_to k3 hbA
  clear hbA c0 c1 k0 k1 k2 k3
  go_wp2_with fail
  refine (mkClu_own c pa qa pc qc wA (rdPods.to HP.out HBA.out) (rdPols.to HQ.out HBA.out) HI.out).mono ?_
  rintro e wB ⟨⟨v, v', rfl, hcu⟩, hbB⟩
  obtain ⟨a, n, a', n', rfl, rfl, ⟨hn, hn'⟩, hrp, hrq⟩ := hcu.get
  have HCO := hid hcu
  have HR := hid (show (right (mkClu c)).1 = 0 by rw [mkClu_right])
  have HBB := hid (Ext.trans HBA.out hbB)
  have HSB := hid hbB.size
  have KRB := hid ((hbB.block (w.heap.size + 1) (by have := HSA.out; omega)).trans KRA.out)
  have m0 := cell_to l0 hbB
  have m1 := cell_to l1 hbB
  have m2 := cell_to l2 hbB
  have m3 := cell_to l3 hbB
  obtain ⟨C, hC⟩ : ∃ C, C = mkClu c := ⟨_, rfl⟩
  rw [← hC] at hn hn' hrp hrq HR HCO h4
  simp only [← hC]
  have HCC := hid hC
  have HN := hid hn
  have HN' := hid hn'
  have HRP1 := hid hrp
  have HRQ1 := hid hrq
  have HIPS := hid (show ∀ p ∈ C.pods, 0 ≤ p.ip ∧ p.ip ≤ 4294967295 from fun p hp => (podOk_true.1 ((right_zero HR.out).1.1 p hp)).2.1)
  clear hbB hcu d0 d1 l0 l1 l2 l3 hn hn' hrp hrq hC
  go_wp2_with fail
  generalize hX : wB.alloc (Obj.cells #[.slice a C.pods.length n, .slice a' C.pols.length n'] 28) = X
  have HSX := hid (show X.heap.size = wB.heap.size + 1 by rw [← hX]; simp)
  have HBX := hid (show Below wB.heap.size wB X from by rw [← hX]; exact (by repeat (first | exact Below.refl _ _ | assumption | apply Ext.alloc | apply Ext.drewN | apply Ext.drew | refine Ext.trans ?_ (by assumption))))
  have KX := hid (show X.heap[wB.heap.size]? = some (.cells #[.slice a C.pods.length n, .slice a' C.pols.length n'] 28 (0, 0)) from by rw [← hX]; exact new_heap _ _)
  clear hX m0 m1 m2 m3
  obtain ⟨i0, i1, i2, i3⟩ := HK.out
  refine (mkPkt_any C.pods k a a' n C.pols.length n' X (rdPods.to HRP1.out HBX.out) HIPS.out i0 i1 i2 i3).mono ?_
  rintro e wP ⟨⟨x, rfl, hx⟩, hbP⟩
  have HPX := hid hx
  have HBP := hid (Ext.trans HBX.out hbP)
  have HSP2 := hid hbP.size
  have KCP := hid ((hbP.block wB.heap.size (by have := HSX.out; omega)).trans KX.out)
  have g0 : wP.cell? ⟨wB.heap.size, 0, none⟩ = some (.slice a C.pods.length n) := (blk_cell KCP.out 0).trans rfl
  have g1 : wP.cell? ⟨wB.heap.size, 1, none⟩ = some (.slice a' C.pols.length n') := (blk_cell KCP.out 1).trans rfl
  clear hx hbP i0 i1 i2 i3
  go_wp2_with fail
  generalize hY : wP.alloc (Obj.cells #[.int .i64 x.src, .int .i64 x.dst, .int .i64 x.proto, .int .i64 x.port] 30) = Y
  have HBY := hid (show Below wP.heap.size wP Y from by rw [← hY]; exact (by repeat (first | exact Below.refl _ _ | assumption | apply Ext.alloc | apply Ext.drewN | apply Ext.drew | refine Ext.trans ?_ (by assumption))))
  have HSY := hid (show Y.heap.size = wP.heap.size + 1 by rw [← hY]; simp)
  have KP := hid (show Y.heap[wP.heap.size]? = some (.cells #[.int .i64 x.src, .int .i64 x.dst, .int .i64 x.proto, .int .i64 x.port] 30 (0, 0)) from by rw [← hY]; exact new_heap _ _)
  clear hY g0 g1
  have hBY2 := Ext.trans HBP.out HBY.out
  refine (keepAllowed_any C x a a' n n' Y (rdPods.to HRP1.out hBY2) (rdPols.to HRQ1.out hBY2) HN.out HR.out HPX.out).mono ?_
  rintro e wQ ⟨rfl, hbQ⟩
  have hBQ := Ext.trans hBY2 hbQ
  have HBQ := hid (show Below w.heap.size w wQ from Ext.trans HBB.out hBQ)
  have HCQ := hid (HCO.out.grow hBQ)
  have KCQ := hid ((hbQ.block wB.heap.size (by have := HSX.out; have := HSP2.out; have := HSY.out; omega)).trans ((HBY.out.block _ (by have := HSX.out; have := HSP2.out; omega)).trans KCP.out))
  have KPQ := hid ((hbQ.block wP.heap.size (by have := HSY.out; omega)).trans KP.out)
  have KRQ := hid ((hBQ.block (w.heap.size + 1) (by have := HSA.out; have := HSB.out; omega)).trans KRB.out)
  have HLT := hid (show w.heap.size + 3 ≤ wA.heap.size ∧ wA.heap.size ≤ wB.heap.size ∧ wB.heap.size < wP.heap.size ∧ wP.heap.size < wQ.heap.size from ⟨HSA.out, HSB.out, by have := HSX.out; have := HSP2.out; omega, by have := HSY.out; have := hbQ.size; omega⟩)
  have HRD := hid (show rdPods wQ.heap.size wQ a C.pods ∧ rdPols wQ.heap.size wQ a' C.pols from ⟨rdPods.to HRP1.out hBQ, rdPols.to HRQ1.out hBQ⟩)
  have HBBQ := hid (show Below wB.heap.size wB wQ from hBQ)
  clear hbQ hBQ hBY2
  clear HP HQ HI HK HBW HBA HSA KR KRA HSW HBB HSB KRB HSX HBX KX HBP HSP2 KCP HBY HSY KP HRP1 HRQ1 HIPS
  have KC0 : wQ.cell? ⟨wB.heap.size, 1, none⟩ = some (.slice a' C.pols.length n') := (blk_cell KCQ.out 1).trans rfl
  have HL4 := hid (right_lens HR.out)
  obtain ⟨av, hav⟩ : ∃ av, av = (may C 1 x x.src x.dst && may C 2 x x.dst x.src) := ⟨_, rfl⟩
  rw [← hav]
  have HAV := hid hav
  clear hav
  have z4 : ¬ (C.pols.length : Int) < 4 := by omega
  go_upto_region 14 with fail
  obtain ⟨wS, hwS⟩ : ∃ wS, wS = wQ := ⟨_, rfl⟩
  have HBS := hid (show Below wQ.heap.size wQ wS by rw [hwS]; exact Below.refl _ _)
  rw [← hwS]
  clear hwS KC0
  have HBBS := hid (Ext.trans HBBQ.out HBS.out)
  have KCS := hid ((HBS.out.block wB.heap.size (by have := HLT.out; omega)).trans KCQ.out)
  have KPS := hid ((HBS.out.block wP.heap.size (by have := HLT.out; omega)).trans KPQ.out)
  have KRS := hid ((HBS.out.block (w.heap.size + 1) (by have := HLT.out; omega)).trans KRQ.out)
  have s1 : wS.cell? ⟨wB.heap.size, 1, none⟩ = some (.slice a' C.pols.length n') := (blk_cell KCS.out 1).trans rfl
  have HBwS := hid (Ext.trans HBQ.out HBS.out)
  by_cases hz0 : C.pols.length = 0
  · have hA1 : av = true := by rw [HAV.out]; exact no_pols hz0
    have HA1 := hid hA1
    rw [hz0] at s1 ⊢
    clear hA1 hz0
    go_wp2
    go_ret
    exact ⟨by first | rfl | simp [HA1.out], HBwS.out⟩
  · have z1 : ¬ (C.pols.length : Int) = 0 := by omega
    obtain ⟨p0, p1⟩ := pk_in (c := which) (n := (C.pols.length : Int)) (by omega)
    obtain ⟨j, hj⟩ : ∃ j : Nat, pk which (C.pols.length : Int) = (j : Int) := ⟨(pk which (C.pols.length : Int)).toNat, by omega⟩
    have hjl : j < C.pols.length := by omega
    have zj : (j : Int) < (C.pols.length : Int) := by omega
    have hl4 : C.pols.length ≤ 4 := HL4.out.2
    have HPK := hid (show ∀ W, Calls Tryz.prog 22 #[.int .i64 which, .int .i64 (C.pols.length : Int)] W fun e w' => e = .returned (.int .i64 (j : Int)) ∧ w' = W from fun W => by rw [← hj]; exact pick_any which _ W HWH.out (by omega) (by omega))
    obtain ⟨m, ys, hm, hupB, hvm, huqB, hys, zs, hzx, hzp, hzzB⟩ := HCO.out
    have hup := hupB.grow NNo.mono HBBS.out
    have huq := huqB.grow NPol.mono HBBS.out
    have hzz : ∀ z ∈ zs, m ≤ z.lo ∧ z.hi ≤ wB.heap.size ∧ PolIn wS z.x z.lo z.mid z.hi ∧ ∀ g, (Value.slice a' C.pols.length n').ownBlock = some g → g < z.lo ∨ z.hi ≤ g := fun z hz => by
      obtain ⟨q1, q2, q3, q4⟩ := hzzB z hz
      exact ⟨q1, q2, q3.to fun b _ h2 => HBBS.out.block b (by omega), q4⟩
    have hgB : ∀ g, (Value.slice a' C.pols.length n').ownBlock = some g → g < wB.heap.size := fun g hg => (huqB.1.lt g hg).2
    clear hupB huqB hzzB
    have hCy : ys.map (·.d) = C.pols := by rw [HCC.out]; exact hys
    have hCp : mkPods c.pods = C.pods := by rw [HCC.out]; rfl
    have hyl : ys.length = C.pols.length := by rw [← hCy, List.length_map]
    have hzl : zs.length = C.pols.length := by rw [← hyl, ← hzx, List.length_map]
    obtain ⟨z, hzj⟩ : ∃ z, zs[j]? = some z := ⟨zs[j]'(by omega), List.getElem?_eq_getElem _⟩
    have hyj : ys[j]? = some z.x := by rw [← hzx, List.getElem?_map, hzj]; rfl
    have hdj : C.pols[j]? = some z.x.d := by rw [← hCy, List.getElem?_map, hyj]; rfl
    obtain ⟨hz1, hz2, ⟨hlm, hmh, hro, hri⟩, hz4⟩ := hzz z (List.mem_of_getElem? hzj)
    have HRO := hid hro
    have HRI := hid hri
    obtain ⟨xo, ho1, ho2, ho3, ho4⟩ := hro
    obtain ⟨xi, hi1, hi2, hi3, hi4⟩ := hri
    obtain ⟨oa, oc, hov, hoc, _⟩ := own_slice ho2
    obtain ⟨ia, ic, hiv, hic, _⟩ := own_slice hi2
    have hol : xo.length = z.x.d.outs.length := by rw [← ho1, List.length_map]
    have hil : xi.length = z.x.d.ins.length := by rw [← hi1, List.length_map]
    obtain ⟨ga, gc, hgv, _, hgcell⟩ := own_slice huq.1
    injection hgv with ea eb ec
    clear eb ec
    obtain ⟨gp, hga, hgm, hgs, cc0⟩ := hgcell _ _ ((oflat_get (k := 6) (enc := encPol) (fun _ => rfl) ys j z.x 0 hyj (by decide)).trans rfl)
    have hcell : ∀ i u, (ys.flatMap encPol)[i]? = some u → wS.cell? ⟨gp, i, none⟩ = some u := fun i u h => by
      obtain ⟨b, e, _, _, hc⟩ := hgcell i u h
      rw [hga] at e; cases e; exact hc
    have hgz : ∀ q ∈ zs, gp < q.lo ∨ q.hi ≤ gp := fun q hq => (hzz q hq).2.2.2 gp (by rw [ea, hga]; rfl)
    have hgpB := hgB gp (by rw [ea, hga]; rfl)
    rw [hga] at ea
    subst ea
    obtain ⟨cur, hG, hcs⟩ : ∃ cur, wS.heap[gp]? = some (.cells cur 59 (0, 0)) ∧ j * 6 + 6 ≤ cur.size := by
      obtain ⟨_, ⟨hnil, _⟩ | ⟨g', cap, cur, eg, _, hG, hnc, _, hsz, _⟩⟩ := huq.1
      · cases hnil
      · injection eg with q1 q2 q3
        injection q1 with q1
        injection q1 with q1
        subst q1
        exact ⟨cur, hG, by omega⟩
    have HGB := hid hG
    have HCS6 := hid hcs
    have e0 : wS.cell? ⟨gp, j * 6, none⟩ = some (.int .i64 z.x.d.space) := hcell _ _ ((oflat_get (k := 6) (enc := encPol) (fun _ => rfl) ys j z.x 0 hyj (by decide)).trans rfl)
    have e1 : wS.cell? ⟨gp, j * 6 + 1, none⟩ = some (.int .i64 z.x.d.need) := hcell _ _ ((oflat_get (k := 6) (enc := encPol) (fun _ => rfl) ys j z.x 1 hyj (by decide)).trans rfl)
    have e2 : wS.cell? ⟨gp, j * 6 + 2, none⟩ = some (.int .i64 z.x.d.ban) := hcell _ _ ((oflat_get (k := 6) (enc := encPol) (fun _ => rfl) ys j z.x 2 hyj (by decide)).trans rfl)
    have e3 : wS.cell? ⟨gp, j * 6 + 3, none⟩ = some (.int .i64 z.x.d.ways) := hcell _ _ ((oflat_get (k := 6) (enc := encPol) (fun _ => rfl) ys j z.x 3 hyj (by decide)).trans rfl)
    have e4 : wS.cell? ⟨gp, j * 6 + 4, none⟩ = some (.slice oa z.x.d.outs.length oc) := by rw [← hol, ← hov]; exact hcell _ _ ((oflat_get (k := 6) (enc := encPol) (fun _ => rfl) ys j z.x 4 hyj (by decide)).trans rfl)
    have e5 : wS.cell? ⟨gp, j * 6 + 5, none⟩ = some (.slice ia z.x.d.ins.length ic) := by rw [← hil, ← hiv]; exact hcell _ _ ((oflat_get (k := 6) (enc := encPol) (fun _ => rfl) ys j z.x 5 hyj (by decide)).trans rfl)
    have HPOK := hid ((right_zero HR.out).2 z.x.d (List.mem_of_getElem? hdj))
    have HCELL := hid hcell
    have HGZ := hid hgz
    have HZZ := hid hzz
    have HZX := hid hzx
    have HZP := hid hzp
    have HZJ := hid hzj
    have HCY := hid hCy
    have HUP := hid hup
    have HVM := hid hvm
    have HDJ := hid hdj
    have HO1 := hid ho1
    have HO2 := hid ho2
    have HO3 := hid ho3
    have HO4 := hid ho4
    have HI1 := hid hi1
    have HI2 := hid hi2
    have HI3 := hid hi3
    have HI4 := hid hi4
    have HOL := hid hol
    have HIL := hid hil
    have HOV := hid hov
    have HIV := hid hiv
    have HCP := hid hCp
    have HYL := hid hyl
    have HBDS := hid (show m ≤ z.lo ∧ z.lo ≤ z.mid ∧ z.mid ≤ z.hi ∧ z.hi ≤ wB.heap.size ∧ m ≤ gp ∧ gp < wB.heap.size ∧ wA.heap.size ≤ m from ⟨hz1, hlm, hmh, hz2, hgm, hgpB, hm⟩)
    have t0 : wS.cell? ⟨w.heap.size + 1, 0, none⟩ = some (.slice ra r.peers.length rc) := (blk_cell KRS.out 0).trans rfl
    have t1 : wS.cell? ⟨w.heap.size + 1, 1, none⟩ = some (.slice sa r.ports.length sc) := (blk_cell KRS.out 1).trans rfl
    have HE := hid (show wS.cell? ⟨gp, j * 6, none⟩ = some (.int .i64 z.x.d.space) ∧ wS.cell? ⟨gp, j * 6 + 1, none⟩ = some (.int .i64 z.x.d.need) ∧ wS.cell? ⟨gp, j * 6 + 2, none⟩ = some (.int .i64 z.x.d.ban) ∧ wS.cell? ⟨gp, j * 6 + 3, none⟩ = some (.int .i64 z.x.d.ways) ∧ wS.cell? ⟨gp, j * 6 + 4, none⟩ = some (.slice oa z.x.d.outs.length oc) ∧ wS.cell? ⟨gp, j * 6 + 5, none⟩ = some (.slice ia z.x.d.ins.length ic) from ⟨e0, e1, e2, e3, e4, e5⟩)
    clear hgB hgpB hG hcs hup hvm huq hys hzx hzp hzz hCy hCp hyl hzl hzj hyj hdj hz1 hz2 hlm hmh hz4 ho1 ho2 ho3 ho4 hi1 hi2 hi3 hi4 hov hoc hiv hic hol hil hgcell hga hgm hgs cc0 hcell hgz hm p0 p1 hj
    go_upto_region 17 with (go_at_call 22; refine (HPK.out _).mono ?_; rintro e w' ⟨rfl, hw'⟩; replace hw' := hw'.symm; subst hw')
    go_wp2_with fail
    generalize hM : wS.alloc (Obj.cells #[.slice ra r.peers.length rc, .slice sa r.ports.length sc] 64) = M
    have HSM := hid (show M.heap.size = wS.heap.size + 1 by rw [← hM]; simp)
    have HBM := hid (show Below wS.heap.size wS M from by rw [← hM]; exact (by repeat (first | exact Below.refl _ _ | assumption | apply Ext.alloc | apply Ext.drewN | apply Ext.drew | refine Ext.trans ?_ (by assumption))))
    have u0 : M.cell? ⟨wS.heap.size, 0, none⟩ = some (.slice ra r.peers.length rc) := by rw [← hM]; simp [go_sem]
    have u1 : M.cell? ⟨wS.heap.size, 1, none⟩ = some (.slice sa r.ports.length sc) := by rw [← hM]; simp [go_sem]
    have HRU := hid (show Calls Tryz.prog 23 #[.slice (some ⟨wS.heap.size, 0, none⟩) 1 1] M fun e w' => (∃ a c, e = .returned (.slice a 1 c) ∧ RulUp M.heap.size w' (.slice a 1 c) [mkRule r]) ∧ Below M.heap.size M w' from (mkRules_up [r] (some ⟨wS.heap.size, 0, none⟩) 1 M (rd_one (by decide) (by have := HSM.out; omega) ⟨⟨ra, rc, u0, rdPeers.to HRP.out (Ext.trans HBwS.out HBM.out)⟩, sa, sc, u1, rdPorts.to HRQ.out (Ext.trans HBwS.out HBM.out)⟩) (fun x hx => by rw [List.mem_singleton] at hx; subst hx; exact HIR.out)).mono fun e w' ⟨⟨a, c, he, _, _, hu⟩, hb⟩ => ⟨⟨a, c, he, hu⟩, hb⟩)
    clear hM u0 u1
    refine HRU.out.mono ?_
    rintro e wR ⟨⟨ga, gc, rfl, hru⟩, hbR⟩
    obtain ⟨xs, hxs, hux⟩ := hru
    obtain ⟨xr, rfl⟩ : ∃ xr, xs = [xr] := by
      cases xs with
      | nil => simp at hxs
      | cons x t => cases t with
        | nil => exact ⟨x, rfl⟩
        | cons => simp at hxs
    have HXD := hid (show xr.d = mkRule r by simpa using hxs)
    obtain ⟨ga', gc', hgv, _, hgcell⟩ := own_slice hux.1
    obtain ⟨rg, hrg, hrgm, hrgs, w0⟩ := hgcell 0 _ rfl
    injection hgv with ea eb ec
    clear eb ec
    have w1 : wR.cell? ⟨rg, 1, none⟩ = some (.slice xr.qa xr.d.ports.length xr.qc) := by
      obtain ⟨b, e, _, _, hc⟩ := hgcell 1 _ rfl
      rw [hrg] at e; cases e; exact hc
    rw [hrg] at ea
    subst ea
    have HNR := hid (hux.2 xr (by simp))
    have HBR := hid (Ext.trans HBM.out hbR)
    have HRG := hid (show M.heap.size ≤ rg ∧ rg < wR.heap.size from ⟨hrgm, hrgs⟩)
    have HW0 := hid w0
    have HW1 := hid w1
    have hBR := HBR.out
    have y0 := cell_to e0 hBR
    have y1 := cell_to e1 hBR
    have y2 := cell_to e2 hBR
    have y3 := cell_to e3 hBR
    have y4 := cell_to e4 hBR
    have y5 := cell_to e5 hBR
    have r1 := cell_to s1 hBR
    clear hux hxs hgcell hrg hrgm hrgs hbR hBR w0 w1 e0 e1 e2 e3 e4 e5 s1 t0 t1
    go_upto_region 19 with fail
    generalize hYB : wR.alloc (Obj.cells #[.int .i64 z.x.d.space, .int .i64 z.x.d.need, .int .i64 z.x.d.ban, .int .i64 z.x.d.ways, .slice oa z.x.d.outs.length oc, .slice ia z.x.d.ins.length ic] 59) = YB
    have HSY := hid (show YB.heap.size = wR.heap.size + 1 by rw [← hYB]; simp)
    have HBYB := hid (show Below wR.heap.size wR YB from by rw [← hYB]; exact (by repeat (first | exact Below.refl _ _ | assumption | apply Ext.alloc | apply Ext.drewN | apply Ext.drew | refine Ext.trans ?_ (by assumption))))
    have KY := hid (show YB.heap[wR.heap.size]? = some (.cells #[.int .i64 z.x.d.space, .int .i64 z.x.d.need, .int .i64 z.x.d.ban, .int .i64 z.x.d.ways, .slice oa z.x.d.outs.length oc, .slice ia z.x.d.ins.length ic] 59 (0, 0)) from by rw [← hYB]; exact new_heap _ _)
    clear hYB y0 y1 y2 y3 y4 y5 r1
    have HBSY := hid (Ext.trans HBR.out HBYB.out)
    have HSS := hid (show wB.heap.size < wP.heap.size ∧ wP.heap.size < wQ.heap.size ∧ wQ.heap.size ≤ wS.heap.size ∧ wS.heap.size < wR.heap.size ∧ YB.heap.size = wR.heap.size + 1 ∧ w.heap.size + 3 ≤ wA.heap.size ∧ wS.heap.size < M.heap.size ∧ M.heap.size ≤ rg ∧ rg < wR.heap.size from ⟨HLT.out.2.2.1, HLT.out.2.2.2, HBS.out.size, by have := HRG.out; have := HSM.out; omega, HSY.out, HLT.out.1, by have := HSM.out; omega, HRG.out.1, HRG.out.2⟩)
    have HOY := hid (show YB.ownsRow z.lo 64 2 (.slice oa z.x.d.outs.length oc) z.x.d.outs.length (xo.flatMap encXRule) by rw [← HOL.out, ← HOV.out]; exact own_to HO2.out HBSY.out)
    have HIY := hid (show YB.ownsRow z.mid 64 2 (.slice ia z.x.d.ins.length ic) z.x.d.ins.length (xi.flatMap encXRule) by rw [← HIL.out, ← HIV.out]; exact own_to HI2.out HBSY.out)
    have HOB := hid (show ∀ g, (Value.slice oa z.x.d.outs.length oc).ownBlock = some g → z.lo ≤ g ∧ g < z.mid from fun g hg => ⟨(HOY.out.lt g hg).1, HO3.out g (by rw [HOV.out, HOL.out]; exact hg)⟩)
    have HIB := hid (show ∀ g, (Value.slice ia z.x.d.ins.length ic).ownBlock = some g → z.mid ≤ g ∧ g < z.hi from fun g hg => ⟨(HIY.out.lt g hg).1, HI3.out g (by rw [HIV.out, HIL.out]; exact hg)⟩)
    have HXC := hid (xr_cells (cell_to HW0.out HBYB.out) (cell_to HW1.out HBYB.out))
    obtain ⟨ir0, hir, irz0, irz1, irz2⟩ := info_parts info_rule
    have hpo := HPOK.out
    simp only [polOk, Bool.and_eq_true, rulesOk, few, btw, decide_eq_true_eq, Bool.or_eq_true] at hpo
    have hwy : z.x.d.ways = 1 ∨ z.x.d.ways = 2 ∨ z.x.d.ways = 3 := by omega
    have hOl : z.x.d.outs.length ≤ 2 := by omega
    have hIl : z.x.d.ins.length ≤ 2 := by omega
    clear hpo
    obtain ⟨wy, hwe⟩ : ∃ wy, wy = z.x.d.ways := ⟨_, rfl⟩
    rw [← hwe] at KY hwy ⊢
    have HWE := hid hwe
    clear hwe
    have c3 : YB.cell? ⟨wR.heap.size, 3, none⟩ = some (.int .i64 wy) := (blk_cell KY.out 3).trans rfl
    have c4 : YB.cell? ⟨wR.heap.size, 4, none⟩ = some (.slice oa z.x.d.outs.length oc) := (blk_cell KY.out 4).trans rfl
    have c5 : YB.cell? ⟨wR.heap.size, 5, none⟩ = some (.slice ia z.x.d.ins.length ic) := (blk_cell KY.out 5).trans rfl
    have cf := blk_frozen KY.out
    rcases hwy with rfl | rfl | rfl
    · by_cases hoo : z.x.d.outs.length < 2
      · have zo : (z.x.d.outs.length : Int) < 2 := by omega
        go_upto_region 21 with (at_builtin; go_must (refine wpList_append_own_at _ rfl _ _ 57 rfl z.lo 64 ir0 _ 2 48 Tryz.underlying57 hir irz0 irz1 irz2 rfl (by decide) _ _ _ rfl HOY.out ⟨rg, 0, none⟩ 1 gc (encXRule xr) rfl rfl HXC.out (encXRule_one _) (by unfold maxLen; omega) (by omega) (by have := HBDS.out; have := HSS.out; omega) ?_); intro v7 w7 hown7 hg7 hnil7 hat7; obtain ⟨a7, c7, hv7, hc7, _⟩ := own_slice hown7; subst hv7; have HO7 := hid hown7; have HG7 := hid hg7; have HA7 := hid hat7; have KY7 := hid ((hg7.block wR.heap.size (by have := HSS.out; omega) (fun e => by have := HOB.out _ e.symm; have := HBDS.out; have := HSS.out; omega)).trans KY.out); have f4 := blk_cell KY7.out; have ff := blk_frozen KY7.out; clear hown7 hg7 hnil7 hat7 hc7 c3 c4 c5 cf)
        obtain ⟨a9, c9, e9, _, hof⟩ := gr_more (i := 4) (u := .slice a7 (z.x.d.outs.length + 1) c7) (yb := wR.heap.size) (H := (fun b => (decide (z.mid ≤ b) && decide (b < z.hi)) || decide (b = gp) || decide (b = wR.heap.size))) (v := .slice oa z.x.d.outs.length oc) HO1.out (by rw [← HOL.out, ← HOV.out]; exact HO4.out) (fun b h1 h2 => HBSY.out.block b (by have := HGZ.out z (List.mem_of_getElem? HZJ.out); have := HBDS.out; have := HSS.out; omega)) (fun b h1 h2 => HBYB.out.block b h2) HBYB.out.size (by have := HGZ.out z (List.mem_of_getElem? HZJ.out); have := HBDS.out; have := HSS.out; omega) (by have := HGZ.out z (List.mem_of_getElem? HZJ.out); have := HBDS.out; have := HSS.out; omega) (by rw [HOL.out]; exact HOY.out) (fun g hg => (HOB.out g hg).2) HNR.out HG7.out (by rw [HOL.out]; exact HO7.out) HA7.out (by omega) (fun b h1 h2 => by have := HGZ.out z (List.mem_of_getElem? HZJ.out); have := HBDS.out; have := HSS.out; simp; omega) (fun b h1 h2 => by have := HGZ.out z (List.mem_of_getElem? HZJ.out); have := HBDS.out; have := HSS.out; simp; omega) (by have := HGZ.out z (List.mem_of_getElem? HZJ.out); have := HBDS.out; have := HSS.out; simp; omega) (by simp)
        injection e9 with q1 q2 q3
        clear q2 q3
        subst q1
        have HOF := hid (show ∀ F : World, (∀ b, b < (w7.setCell ⟨wR.heap.size, 4, none⟩ (.slice a7 (z.x.d.outs.length + 1) c7)).heap.size → (fun b => (decide (z.mid ≤ b) && decide (b < z.hi)) || decide (b = gp) || decide (b = wR.heap.size)) b = false → F.heap[b]? = (w7.setCell ⟨wR.heap.size, 4, none⟩ (.slice a7 (z.x.d.outs.length + 1) c7)).heap[b]?) → (w7.setCell ⟨wR.heap.size, 4, none⟩ (.slice a7 (z.x.d.outs.length + 1) c7)).heap.size ≤ F.heap.size → rdRules F.heap.size F a7 (z.x.d.outs ++ [xr.d]) from fun F hF hFs => hof F (fun b hb hH => hF b (by rw [World.size_setCell]; exact hb) hH) (by rw [World.size_setCell] at hFs; exact hFs))
        have HSTG1 := hid (Stg.app (yb := wR.heap.size) 4 (.slice a7 (z.x.d.outs.length + 1) c7) HG7.out HOB.out)
        have KYC := hid (show (w7.setCell ⟨wR.heap.size, 4, none⟩ (.slice a7 (z.x.d.outs.length + 1) c7)).heap[wR.heap.size]? = some (.cells #[.int .i64 z.x.d.space, .int .i64 z.x.d.need, .int .i64 z.x.d.ban, .int .i64 1, .slice a7 (z.x.d.outs.length + 1) c7, .slice ia z.x.d.ins.length ic] 59 (0, 0)) from (set_blk KY7.out 4 _).trans rfl)
        generalize w7.setCell ⟨wR.heap.size, 4, none⟩ (.slice a7 (z.x.d.outs.length + 1) c7) = YC at HSTG1 KYC HOF ⊢
        clear f4 ff hof
        have c3 : YC.cell? ⟨wR.heap.size, 3, none⟩ = some (.int .i64 1) := (blk_cell KYC.out 3).trans rfl
        have c5 : YC.cell? ⟨wR.heap.size, 5, none⟩ = some (.slice ia z.x.d.ins.length ic) := (blk_cell KYC.out 5).trans rfl
        have cf := blk_frozen KYC.out
        go_upto_region 23 with fail
        obtain ⟨YD, hYD⟩ : ∃ YD, YD = YC := ⟨_, rfl⟩
        have HSZC := hid HSTG1.out.1.2.2.2
        have HSTG2 := hid (show Stg wR.heap.size z.mid z.hi YC YD by rw [hYD]; exact Stg.refl _ _ _ _)
        have KYD := hid (show YD.heap[wR.heap.size]? = some (.cells #[.int .i64 z.x.d.space, .int .i64 z.x.d.need, .int .i64 z.x.d.ban, .int .i64 1, .slice a7 (z.x.d.outs.length + 1) c7, .slice ia z.x.d.ins.length ic] 59 (0, 0)) by rw [hYD]; exact KYC.out)
        have HIF := hid (show ∀ F : World, (∀ b, b < YD.heap.size → (fun b => decide (b = gp) || decide (b = wR.heap.size)) b = false → F.heap[b]? = YD.heap[b]?) → YD.heap.size ≤ F.heap.size → rdRules F.heap.size F ia z.x.d.ins from fun F hF hFs => gr_same HRI.out (by rw [HIV.out, HIL.out]) (fun b h1 h2 => by rw [hYD]; exact (HSTG1.out.2 b (by have := HGZ.out z (List.mem_of_getElem? HZJ.out); have := HBDS.out; have := HSS.out; omega) (by have := HGZ.out z (List.mem_of_getElem? HZJ.out); have := HBDS.out; have := HSS.out; omega) (by omega)).trans (HBSY.out.block b (by have := HGZ.out z (List.mem_of_getElem? HZJ.out); have := HBDS.out; have := HSS.out; omega))) (by rw [hYD]; have := HSZC.out; have := HGZ.out z (List.mem_of_getElem? HZJ.out); have := HBDS.out; have := HSS.out; omega) (by omega) F (fun b h1 h2 => hF b (by rw [hYD]; have := HSZC.out; have := HGZ.out z (List.mem_of_getElem? HZJ.out); have := HBDS.out; have := HSS.out; omega) (by have := HGZ.out z (List.mem_of_getElem? HZJ.out); have := HBDS.out; have := HSS.out; simp; omega)) hFs)
        rw [← hYD]
        clear hYD c3 c5 cf
        have HSZD := hid (Nat.le_trans HSZC.out HSTG2.out.1.2.2.2)
        have HFD := hid (show ∀ b, b < YB.heap.size → b ≠ wR.heap.size → ¬ (z.lo ≤ b ∧ b < z.hi) → YD.heap[b]? = YB.heap[b]? from fun b h1 h2 h3 => (HSTG2.out.2 b (Nat.lt_of_lt_of_le h1 HSZC.out) h2 (by have := HBDS.out; omega)).trans (HSTG1.out.2 b h1 h2 (by have := HBDS.out; omega)))
        have HFS := hid (show ∀ b, b < wS.heap.size → ¬ (z.lo ≤ b ∧ b < z.hi) → YD.heap[b]? = wS.heap[b]? from fun b h1 h2 => (HFD.out b (by have := HGZ.out z (List.mem_of_getElem? HZJ.out); have := HBDS.out; have := HSS.out; omega) (by have := HGZ.out z (List.mem_of_getElem? HZJ.out); have := HBDS.out; have := HSS.out; omega) h2).trans (HBSY.out.block b h1))
        have HGD := hid ((HFS.out gp (by have := HGZ.out z (List.mem_of_getElem? HZJ.out); have := HBDS.out; have := HSS.out; omega) (by have := HGZ.out z (List.mem_of_getElem? HZJ.out); have := HBDS.out; have := HSS.out; omega)).trans HGB.out)
        have hgd := HFS.out gp (by have := HGZ.out z (List.mem_of_getElem? HZJ.out); have := HBDS.out; have := HSS.out; omega) (by have := HGZ.out z (List.mem_of_getElem? HZJ.out); have := HBDS.out; have := HSS.out; omega)
        have g0 := (World.cell?_of_block (a := ⟨gp, j * 6, none⟩) hgd).trans HE.out.1
        have g1 := (World.cell?_of_block (a := ⟨gp, j * 6 + 1, none⟩) hgd).trans HE.out.2.1
        have g2 := (World.cell?_of_block (a := ⟨gp, j * 6 + 2, none⟩) hgd).trans HE.out.2.2.1
        have g3 := (World.cell?_of_block (a := ⟨gp, j * 6 + 3, none⟩) hgd).trans HE.out.2.2.2.1
        have g4 := (World.cell?_of_block (a := ⟨gp, j * 6 + 4, none⟩) hgd).trans HE.out.2.2.2.2.1
        have g5 := (World.cell?_of_block (a := ⟨gp, j * 6 + 5, none⟩) hgd).trans HE.out.2.2.2.2.2
        have gfz := blk_frozen HGD.out
        have KCD := (HFS.out wB.heap.size (by have := HGZ.out z (List.mem_of_getElem? HZJ.out); have := HBDS.out; have := HSS.out; omega) (by have := HGZ.out z (List.mem_of_getElem? HZJ.out); have := HBDS.out; have := HSS.out; omega)).trans KCS.out
        have KPD := (HFS.out wP.heap.size (by have := HGZ.out z (List.mem_of_getElem? HZJ.out); have := HBDS.out; have := HSS.out; omega) (by have := HGZ.out z (List.mem_of_getElem? HZJ.out); have := HBDS.out; have := HSS.out; omega)).trans KPS.out
        have i0 : YD.cell? ⟨wB.heap.size, 0, none⟩ = some (.slice a C.pods.length n) := (blk_cell KCD 0).trans rfl
        have i1 : YD.cell? ⟨wB.heap.size, 1, none⟩ = some (.slice (some ⟨gp, 0, none⟩) C.pols.length n') := (blk_cell KCD 1).trans rfl
        have i2 : YD.cell? ⟨wP.heap.size, 0, none⟩ = some (.int .i64 x.src) := (blk_cell KPD 0).trans rfl
        have i3 : YD.cell? ⟨wP.heap.size, 1, none⟩ = some (.int .i64 x.dst) := (blk_cell KPD 1).trans rfl
        have i4 : YD.cell? ⟨wP.heap.size, 2, none⟩ = some (.int .i64 x.proto) := (blk_cell KPD 2).trans rfl
        have i5 : YD.cell? ⟨wP.heap.size, 3, none⟩ = some (.int .i64 x.port) := (blk_cell KPD 3).trans rfl
        have d0 : YD.cell? ⟨wR.heap.size, 0, none⟩ = some (.int .i64 z.x.d.space) := (blk_cell KYD.out 0).trans rfl
        have d1 : YD.cell? ⟨wR.heap.size, 1, none⟩ = some (.int .i64 z.x.d.need) := (blk_cell KYD.out 1).trans rfl
        have d2 : YD.cell? ⟨wR.heap.size, 2, none⟩ = some (.int .i64 z.x.d.ban) := (blk_cell KYD.out 2).trans rfl
        have d3 : YD.cell? ⟨wR.heap.size, 3, none⟩ = some (.int .i64 1) := (blk_cell KYD.out 3).trans rfl
        have d4 : YD.cell? ⟨wR.heap.size, 4, none⟩ = some (.slice a7 (z.x.d.outs.length + 1) c7) := (blk_cell KYD.out 4).trans rfl
        have d5 : YD.cell? ⟨wR.heap.size, 5, none⟩ = some (.slice ia z.x.d.ins.length ic) := (blk_cell KYD.out 5).trans rfl
        have n1 : ¬ gp = wB.heap.size := by have := HGZ.out z (List.mem_of_getElem? HZJ.out); have := HBDS.out; have := HSS.out; omega
        have n2 : ¬ wB.heap.size = gp := by have := HGZ.out z (List.mem_of_getElem? HZJ.out); have := HBDS.out; have := HSS.out; omega
        have n3 : ¬ gp = wP.heap.size := by have := HGZ.out z (List.mem_of_getElem? HZJ.out); have := HBDS.out; have := HSS.out; omega
        have n4 : ¬ wP.heap.size = gp := by have := HGZ.out z (List.mem_of_getElem? HZJ.out); have := HBDS.out; have := HSS.out; omega
        clear hgd KCD KPD
        go_wp2_with fail
        have hF1 := put6_far YD gp (j * 6) (.int .i64 z.x.d.space) (.int .i64 z.x.d.need) (.int .i64 z.x.d.ban) (.int .i64 1) (.slice a7 (z.x.d.outs.length + 1) c7) (.slice ia z.x.d.ins.length ic)
        have hFs := put6_size YD gp (j * 6) (.int .i64 z.x.d.space) (.int .i64 z.x.d.need) (.int .i64 z.x.d.ban) (.int .i64 1) (.slice a7 (z.x.d.outs.length + 1) c7) (.slice ia z.x.d.ins.length ic)
        have hFin := put6_in (w := YD) (g := gp) (o := j * 6) (a0 := .int .i64 z.x.d.space) (a1 := .int .i64 z.x.d.need) (a2 := .int .i64 z.x.d.ban) (a3 := .int .i64 1) (a4 := .slice a7 (z.x.d.outs.length + 1) c7) (a5 := .slice ia z.x.d.ins.length ic) HGD.out HCS6.out
        have hFo : ∀ i, (i < j * 6 ∨ j * 6 + 6 ≤ i) → (put6 YD gp (j * 6) (.int .i64 z.x.d.space) (.int .i64 z.x.d.need) (.int .i64 z.x.d.ban) (.int .i64 1) (.slice a7 (z.x.d.outs.length + 1) c7) (.slice ia z.x.d.ins.length ic)).cell? ⟨gp, i, none⟩ = YD.cell? ⟨gp, i, none⟩ := fun i hi => put6_out HGD.out hi
        have hFB : Below w.heap.size w (put6 YD gp (j * 6) (.int .i64 z.x.d.space) (.int .i64 z.x.d.need) (.int .i64 z.x.d.ban) (.int .i64 1) (.slice a7 (z.x.d.outs.length + 1) c7) (.slice ia z.x.d.ins.length ic)) := put6_below (((Ext.trans HBwS.out HBSY.out).trans (HSTG1.out.below (by have := HGZ.out z (List.mem_of_getElem? HZJ.out); have := HBDS.out; have := HSS.out; omega) (by have := HGZ.out z (List.mem_of_getElem? HZJ.out); have := HBDS.out; have := HSS.out; omega) (by have := HGZ.out z (List.mem_of_getElem? HZJ.out); have := HBDS.out; have := HSS.out; omega))).trans (HSTG2.out.below (by have := HGZ.out z (List.mem_of_getElem? HZJ.out); have := HBDS.out; have := HSS.out; omega) (by have := HGZ.out z (List.mem_of_getElem? HZJ.out); have := HBDS.out; have := HSS.out; omega) (by have := HSZC.out; have := HGZ.out z (List.mem_of_getElem? HZJ.out); have := HBDS.out; have := HSS.out; omega))) (by have := HGZ.out z (List.mem_of_getElem? HZJ.out); have := HBDS.out; have := HSS.out; omega)
        show Calls _ _ _ (put6 YD gp (j * 6) (.int .i64 z.x.d.space) (.int .i64 z.x.d.need) (.int .i64 z.x.d.ban) (.int .i64 1) (.slice a7 (z.x.d.outs.length + 1) c7) (.slice ia z.x.d.ins.length ic)) _
        generalize put6 YD gp (j * 6) (.int .i64 z.x.d.space) (.int .i64 z.x.d.need) (.int .i64 z.x.d.ban) (.int .i64 1) (.slice a7 (z.x.d.outs.length + 1) c7) (.slice ia z.x.d.ins.length ic) = F at hF1 hFs hFin hFo hFB ⊢
        clear g0 g1 g2 g3 g4 g5 gfz i0 i1 i2 i3 i4 i5 d0 d1 d2 d3 d4 d5 n1 n2 n3 n4
        have HFB := hid hFB
        obtain ⟨y', hy'⟩ : ∃ y', y' = addRule z.x.d xr.d true false := ⟨_, rfl⟩
        have HPY := hid (show polOk y' = true by rw [hy']; exact addRule_ok HPOK.out (by rw [HXD.out]; exact mkRule_ok r) (fun _ => by have := HWE.out; omega) (fun h => by cases h))
        have hrA := set_right (i := j) HR.out HPY.out
        obtain ⟨A, hA⟩ : ∃ A : DClu, A = ⟨C.pods, C.pols.set j y'⟩ := ⟨_, rfl⟩
        rw [← hA] at hrA
        have hrp : rdPods F.heap.size F a C.pods := by
          have hup := HUP.out
          rw [HCP.out] at hup
          exact gr_pods hup HVM.out HL4.out.1 fun b h1 h2 => (hF1 b (by have := HGZ.out z (List.mem_of_getElem? HZJ.out); have := HBDS.out; have := HSS.out; omega)).trans (HFS.out b h1 (by have := HGZ.out z (List.mem_of_getElem? HZJ.out); have := HBDS.out; have := HSS.out; omega))
        have hrq : rdPols F.heap.size F (some ⟨gp, 0, none⟩) (C.pols.set j y') := by
          rw [← HCY.out]
          refine gr_pols (wS := wS) (m := m) HCELL.out (by rw [hFs]; have := HSZD.out; have := HGZ.out z (List.mem_of_getElem? HZJ.out); have := HBDS.out; have := HSS.out; omega) HZX.out HZP.out (fun q hq => ⟨(HZZ.out q hq).1, by have := (HZZ.out q hq).2.1; have := HGZ.out z (List.mem_of_getElem? HZJ.out); have := HBDS.out; have := HSS.out; omega, (HZZ.out q hq).2.2.1, HGZ.out q hq⟩) HZJ.out (by rw [hFs]; have := HSZD.out; have := HGZ.out z (List.mem_of_getElem? HZJ.out); have := HBDS.out; have := HSS.out; omega) (fun b h1 h2 h3 => (hF1 b h3).trans (HFS.out b h1 h2)) (fun i t u hne ht hu => (hFo _ (by omega)).trans ((World.cell?_of_block (a := ⟨gp, i * 6 + t, none⟩) (HFS.out gp (by have := HGZ.out z (List.mem_of_getElem? HZJ.out); have := HBDS.out; have := HSS.out; omega) (by have := HGZ.out z (List.mem_of_getElem? HZJ.out); have := HBDS.out; have := HSS.out; omega))).trans hu)) ?_ (by rw [HYL.out]; omega) (fun y hy => ?_)
          · rw [hy']
            refine ⟨hFin.1, hFin.2.1, hFin.2.2.1, by have e := hFin.2.2.2.1; rw [HWE.out] at e; exact e, ⟨a7, c7, ?_, HOF.out F (fun b h1 h2 => ?_) (by rw [hFs]; exact HSTG2.out.1.2.2.2)⟩, ia, ic, ?_, HIF.out F (fun b h1 h2 => ?_) (by rw [hFs]; exact Nat.le_refl _)⟩
            · have e := hFin.2.2.2.2.1
              first | exact e | (rw [show (addRule z.x.d xr.d true false).outs.length = z.x.d.outs.length + 1 by simp [addRule]]; exact e)
            · simp only [Bool.or_eq_false_iff, Bool.and_eq_false_iff, decide_eq_false_iff_not] at h2
              exact (hF1 b (by omega)).trans (HSTG2.out.2 b h1 (by omega) (by omega))
            · have e := hFin.2.2.2.2.2
              first | exact e | (rw [show (addRule z.x.d xr.d true false).ins.length = z.x.d.ins.length + 1 by simp [addRule]]; exact e)
            · simp only [Bool.or_eq_false_iff, decide_eq_false_iff_not] at h2
              exact hF1 b h2.1
          · have hp := (right_zero HR.out).2 y.d (by rw [← HCY.out]; exact List.mem_map.2 ⟨y, hy, rfl⟩)
            simp only [polOk, Bool.and_eq_true, rulesOk, few, btw, decide_eq_true_eq, Bool.or_eq_true] at hp
            omega
        have HIM2 := hid (show av = true → (may A 1 x x.src x.dst && may A 2 x x.dst x.src) = true from fun h => by
          rw [HAV.out, Bool.and_eq_true] at h
          rw [hA, Bool.and_eq_true, hy']
          exact ⟨more_may (y' := addRule z.x.d xr.d true false) HDJ.out (fun _ _ => rfl) (fun _ _ _ hl => addRule_lets hl) h.1, more_may (y' := addRule z.x.d xr.d true false) HDJ.out (fun _ _ => rfl) (fun _ _ _ hl => addRule_lets hl) h.2⟩)
        have EA := hid (show A.pods = C.pods by rw [hA])
        have EB := hid (show A.pols = C.pols.set j y' by rw [hA])
        have HRP9 := hid hrp
        have HRQ9 := hid hrq
        clear hF1 hFs hFin hFo hFB hrp hrq hy' hA
        refine (keepAllowed_len A x a (some ⟨gp, 0, none⟩) n n' C.pods.length C.pols.length F (by rw [EA.out]) (by rw [EB.out, List.length_set]) (by rw [EA.out]; exact HRP9.out) (by rw [EB.out]; exact HRQ9.out) (by rw [EA.out]; exact HN.out) (by rw [hrA]) HPX.out).mono ?_
        generalize (may A 1 x x.src x.dst && may A 2 x x.dst x.src) = b2 at HIM2
        rintro e wF ⟨rfl, hbF⟩
        have HFIN := hid (Ext.trans HFB.out hbF)
        clear hbF hrA
        have hcase2 : b2 = true ∨ (b2 = false ∧ av = false) := by
          cases b2
          · refine .inr ⟨rfl, ?_⟩
            cases hv : av
            · rfl
            · exact absurd (HIM2.out hv) (by decide)
          · exact .inl rfl
        rcases hcase2 with rfl | ⟨rfl, hav0⟩
        · go_wp2
          go_ret
          exact ⟨by simp, HFIN.out⟩
        · first
            | (exfalso; have h1 := hav1; rw [hav0] at h1; cases h1; done)
            | (go_wp2
               go_ret
               exact ⟨by simp, HFIN.out⟩)
      · have zo : ¬ (z.x.d.outs.length : Int) < 2 := by omega
        go_upto_region 21 with fail
        obtain ⟨YC, hYC⟩ : ∃ YC, YC = YB := ⟨_, rfl⟩
        have HSTG1 := hid (show Stg wR.heap.size z.lo z.mid YB YC by rw [hYC]; exact Stg.refl _ _ _ _)
        have KYC := hid (show YC.heap[wR.heap.size]? = some (.cells #[.int .i64 z.x.d.space, .int .i64 z.x.d.need, .int .i64 z.x.d.ban, .int .i64 1, .slice oa z.x.d.outs.length oc, .slice ia z.x.d.ins.length ic] 59 (0, 0)) by rw [hYC]; exact KY.out)
        have HOF := hid (show ∀ F : World, (∀ b, b < YC.heap.size → (fun b => (decide (z.mid ≤ b) && decide (b < z.hi)) || decide (b = gp) || decide (b = wR.heap.size)) b = false → F.heap[b]? = YC.heap[b]?) → YC.heap.size ≤ F.heap.size → rdRules F.heap.size F oa z.x.d.outs from fun F hF hFs => gr_same HRO.out (by rw [HOV.out, HOL.out]) (fun b h1 h2 => by rw [hYC]; exact HBSY.out.block b (by have := HGZ.out z (List.mem_of_getElem? HZJ.out); have := HBDS.out; have := HSS.out; omega)) (by rw [hYC]; have := HGZ.out z (List.mem_of_getElem? HZJ.out); have := HBDS.out; have := HSS.out; omega) (by omega) F (fun b h1 h2 => hF b (by rw [hYC]; have := HGZ.out z (List.mem_of_getElem? HZJ.out); have := HBDS.out; have := HSS.out; omega) (by have := HGZ.out z (List.mem_of_getElem? HZJ.out); have := HBDS.out; have := HSS.out; simp; omega)) hFs)
        rw [← hYC]
        clear hYC c3 c4 c5 cf
        have c3 : YC.cell? ⟨wR.heap.size, 3, none⟩ = some (.int .i64 1) := (blk_cell KYC.out 3).trans rfl
        have c5 : YC.cell? ⟨wR.heap.size, 5, none⟩ = some (.slice ia z.x.d.ins.length ic) := (blk_cell KYC.out 5).trans rfl
        have cf := blk_frozen KYC.out
        go_upto_region 23 with fail
        obtain ⟨YD, hYD⟩ : ∃ YD, YD = YC := ⟨_, rfl⟩
        have HSZC := hid HSTG1.out.1.2.2.2
        have HSTG2 := hid (show Stg wR.heap.size z.mid z.hi YC YD by rw [hYD]; exact Stg.refl _ _ _ _)
        have KYD := hid (show YD.heap[wR.heap.size]? = some (.cells #[.int .i64 z.x.d.space, .int .i64 z.x.d.need, .int .i64 z.x.d.ban, .int .i64 1, .slice oa z.x.d.outs.length oc, .slice ia z.x.d.ins.length ic] 59 (0, 0)) by rw [hYD]; exact KYC.out)
        have HIF := hid (show ∀ F : World, (∀ b, b < YD.heap.size → (fun b => decide (b = gp) || decide (b = wR.heap.size)) b = false → F.heap[b]? = YD.heap[b]?) → YD.heap.size ≤ F.heap.size → rdRules F.heap.size F ia z.x.d.ins from fun F hF hFs => gr_same HRI.out (by rw [HIV.out, HIL.out]) (fun b h1 h2 => by rw [hYD]; exact (HSTG1.out.2 b (by have := HGZ.out z (List.mem_of_getElem? HZJ.out); have := HBDS.out; have := HSS.out; omega) (by have := HGZ.out z (List.mem_of_getElem? HZJ.out); have := HBDS.out; have := HSS.out; omega) (by omega)).trans (HBSY.out.block b (by have := HGZ.out z (List.mem_of_getElem? HZJ.out); have := HBDS.out; have := HSS.out; omega))) (by rw [hYD]; have := HSZC.out; have := HGZ.out z (List.mem_of_getElem? HZJ.out); have := HBDS.out; have := HSS.out; omega) (by omega) F (fun b h1 h2 => hF b (by rw [hYD]; have := HSZC.out; have := HGZ.out z (List.mem_of_getElem? HZJ.out); have := HBDS.out; have := HSS.out; omega) (by have := HGZ.out z (List.mem_of_getElem? HZJ.out); have := HBDS.out; have := HSS.out; simp; omega)) hFs)
        rw [← hYD]
        clear hYD c3 c5 cf
        have HSZD := hid (Nat.le_trans HSZC.out HSTG2.out.1.2.2.2)
        have HFD := hid (show ∀ b, b < YB.heap.size → b ≠ wR.heap.size → ¬ (z.lo ≤ b ∧ b < z.hi) → YD.heap[b]? = YB.heap[b]? from fun b h1 h2 h3 => (HSTG2.out.2 b (Nat.lt_of_lt_of_le h1 HSZC.out) h2 (by have := HBDS.out; omega)).trans (HSTG1.out.2 b h1 h2 (by have := HBDS.out; omega)))
        have HFS := hid (show ∀ b, b < wS.heap.size → ¬ (z.lo ≤ b ∧ b < z.hi) → YD.heap[b]? = wS.heap[b]? from fun b h1 h2 => (HFD.out b (by have := HGZ.out z (List.mem_of_getElem? HZJ.out); have := HBDS.out; have := HSS.out; omega) (by have := HGZ.out z (List.mem_of_getElem? HZJ.out); have := HBDS.out; have := HSS.out; omega) h2).trans (HBSY.out.block b h1))
        have HGD := hid ((HFS.out gp (by have := HGZ.out z (List.mem_of_getElem? HZJ.out); have := HBDS.out; have := HSS.out; omega) (by have := HGZ.out z (List.mem_of_getElem? HZJ.out); have := HBDS.out; have := HSS.out; omega)).trans HGB.out)
        have hgd := HFS.out gp (by have := HGZ.out z (List.mem_of_getElem? HZJ.out); have := HBDS.out; have := HSS.out; omega) (by have := HGZ.out z (List.mem_of_getElem? HZJ.out); have := HBDS.out; have := HSS.out; omega)
        have g0 := (World.cell?_of_block (a := ⟨gp, j * 6, none⟩) hgd).trans HE.out.1
        have g1 := (World.cell?_of_block (a := ⟨gp, j * 6 + 1, none⟩) hgd).trans HE.out.2.1
        have g2 := (World.cell?_of_block (a := ⟨gp, j * 6 + 2, none⟩) hgd).trans HE.out.2.2.1
        have g3 := (World.cell?_of_block (a := ⟨gp, j * 6 + 3, none⟩) hgd).trans HE.out.2.2.2.1
        have g4 := (World.cell?_of_block (a := ⟨gp, j * 6 + 4, none⟩) hgd).trans HE.out.2.2.2.2.1
        have g5 := (World.cell?_of_block (a := ⟨gp, j * 6 + 5, none⟩) hgd).trans HE.out.2.2.2.2.2
        have gfz := blk_frozen HGD.out
        have KCD := (HFS.out wB.heap.size (by have := HGZ.out z (List.mem_of_getElem? HZJ.out); have := HBDS.out; have := HSS.out; omega) (by have := HGZ.out z (List.mem_of_getElem? HZJ.out); have := HBDS.out; have := HSS.out; omega)).trans KCS.out
        have KPD := (HFS.out wP.heap.size (by have := HGZ.out z (List.mem_of_getElem? HZJ.out); have := HBDS.out; have := HSS.out; omega) (by have := HGZ.out z (List.mem_of_getElem? HZJ.out); have := HBDS.out; have := HSS.out; omega)).trans KPS.out
        have i0 : YD.cell? ⟨wB.heap.size, 0, none⟩ = some (.slice a C.pods.length n) := (blk_cell KCD 0).trans rfl
        have i1 : YD.cell? ⟨wB.heap.size, 1, none⟩ = some (.slice (some ⟨gp, 0, none⟩) C.pols.length n') := (blk_cell KCD 1).trans rfl
        have i2 : YD.cell? ⟨wP.heap.size, 0, none⟩ = some (.int .i64 x.src) := (blk_cell KPD 0).trans rfl
        have i3 : YD.cell? ⟨wP.heap.size, 1, none⟩ = some (.int .i64 x.dst) := (blk_cell KPD 1).trans rfl
        have i4 : YD.cell? ⟨wP.heap.size, 2, none⟩ = some (.int .i64 x.proto) := (blk_cell KPD 2).trans rfl
        have i5 : YD.cell? ⟨wP.heap.size, 3, none⟩ = some (.int .i64 x.port) := (blk_cell KPD 3).trans rfl
        have d0 : YD.cell? ⟨wR.heap.size, 0, none⟩ = some (.int .i64 z.x.d.space) := (blk_cell KYD.out 0).trans rfl
        have d1 : YD.cell? ⟨wR.heap.size, 1, none⟩ = some (.int .i64 z.x.d.need) := (blk_cell KYD.out 1).trans rfl
        have d2 : YD.cell? ⟨wR.heap.size, 2, none⟩ = some (.int .i64 z.x.d.ban) := (blk_cell KYD.out 2).trans rfl
        have d3 : YD.cell? ⟨wR.heap.size, 3, none⟩ = some (.int .i64 1) := (blk_cell KYD.out 3).trans rfl
        have d4 : YD.cell? ⟨wR.heap.size, 4, none⟩ = some (.slice oa z.x.d.outs.length oc) := (blk_cell KYD.out 4).trans rfl
        have d5 : YD.cell? ⟨wR.heap.size, 5, none⟩ = some (.slice ia z.x.d.ins.length ic) := (blk_cell KYD.out 5).trans rfl
        have n1 : ¬ gp = wB.heap.size := by have := HGZ.out z (List.mem_of_getElem? HZJ.out); have := HBDS.out; have := HSS.out; omega
        have n2 : ¬ wB.heap.size = gp := by have := HGZ.out z (List.mem_of_getElem? HZJ.out); have := HBDS.out; have := HSS.out; omega
        have n3 : ¬ gp = wP.heap.size := by have := HGZ.out z (List.mem_of_getElem? HZJ.out); have := HBDS.out; have := HSS.out; omega
        have n4 : ¬ wP.heap.size = gp := by have := HGZ.out z (List.mem_of_getElem? HZJ.out); have := HBDS.out; have := HSS.out; omega
        clear hgd KCD KPD
        go_wp2_with fail
        have hF1 := put6_far YD gp (j * 6) (.int .i64 z.x.d.space) (.int .i64 z.x.d.need) (.int .i64 z.x.d.ban) (.int .i64 1) (.slice oa z.x.d.outs.length oc) (.slice ia z.x.d.ins.length ic)
        have hFs := put6_size YD gp (j * 6) (.int .i64 z.x.d.space) (.int .i64 z.x.d.need) (.int .i64 z.x.d.ban) (.int .i64 1) (.slice oa z.x.d.outs.length oc) (.slice ia z.x.d.ins.length ic)
        have hFin := put6_in (w := YD) (g := gp) (o := j * 6) (a0 := .int .i64 z.x.d.space) (a1 := .int .i64 z.x.d.need) (a2 := .int .i64 z.x.d.ban) (a3 := .int .i64 1) (a4 := .slice oa z.x.d.outs.length oc) (a5 := .slice ia z.x.d.ins.length ic) HGD.out HCS6.out
        have hFo : ∀ i, (i < j * 6 ∨ j * 6 + 6 ≤ i) → (put6 YD gp (j * 6) (.int .i64 z.x.d.space) (.int .i64 z.x.d.need) (.int .i64 z.x.d.ban) (.int .i64 1) (.slice oa z.x.d.outs.length oc) (.slice ia z.x.d.ins.length ic)).cell? ⟨gp, i, none⟩ = YD.cell? ⟨gp, i, none⟩ := fun i hi => put6_out HGD.out hi
        have hFB : Below w.heap.size w (put6 YD gp (j * 6) (.int .i64 z.x.d.space) (.int .i64 z.x.d.need) (.int .i64 z.x.d.ban) (.int .i64 1) (.slice oa z.x.d.outs.length oc) (.slice ia z.x.d.ins.length ic)) := put6_below (((Ext.trans HBwS.out HBSY.out).trans (HSTG1.out.below (by have := HGZ.out z (List.mem_of_getElem? HZJ.out); have := HBDS.out; have := HSS.out; omega) (by have := HGZ.out z (List.mem_of_getElem? HZJ.out); have := HBDS.out; have := HSS.out; omega) (by have := HGZ.out z (List.mem_of_getElem? HZJ.out); have := HBDS.out; have := HSS.out; omega))).trans (HSTG2.out.below (by have := HGZ.out z (List.mem_of_getElem? HZJ.out); have := HBDS.out; have := HSS.out; omega) (by have := HGZ.out z (List.mem_of_getElem? HZJ.out); have := HBDS.out; have := HSS.out; omega) (by have := HSZC.out; have := HGZ.out z (List.mem_of_getElem? HZJ.out); have := HBDS.out; have := HSS.out; omega))) (by have := HGZ.out z (List.mem_of_getElem? HZJ.out); have := HBDS.out; have := HSS.out; omega)
        show Calls _ _ _ (put6 YD gp (j * 6) (.int .i64 z.x.d.space) (.int .i64 z.x.d.need) (.int .i64 z.x.d.ban) (.int .i64 1) (.slice oa z.x.d.outs.length oc) (.slice ia z.x.d.ins.length ic)) _
        generalize put6 YD gp (j * 6) (.int .i64 z.x.d.space) (.int .i64 z.x.d.need) (.int .i64 z.x.d.ban) (.int .i64 1) (.slice oa z.x.d.outs.length oc) (.slice ia z.x.d.ins.length ic) = F at hF1 hFs hFin hFo hFB ⊢
        clear g0 g1 g2 g3 g4 g5 gfz i0 i1 i2 i3 i4 i5 d0 d1 d2 d3 d4 d5 n1 n2 n3 n4
        have HFB := hid hFB
        obtain ⟨y', hy'⟩ : ∃ y', y' = addRule z.x.d xr.d false false := ⟨_, rfl⟩
        have HPY := hid (show polOk y' = true by rw [hy']; exact addRule_ok HPOK.out (by rw [HXD.out]; exact mkRule_ok r) (fun h => by cases h) (fun h => by cases h))
        have hrA := set_right (i := j) HR.out HPY.out
        obtain ⟨A, hA⟩ : ∃ A : DClu, A = ⟨C.pods, C.pols.set j y'⟩ := ⟨_, rfl⟩
        rw [← hA] at hrA
        have hrp : rdPods F.heap.size F a C.pods := by
          have hup := HUP.out
          rw [HCP.out] at hup
          exact gr_pods hup HVM.out HL4.out.1 fun b h1 h2 => (hF1 b (by have := HGZ.out z (List.mem_of_getElem? HZJ.out); have := HBDS.out; have := HSS.out; omega)).trans (HFS.out b h1 (by have := HGZ.out z (List.mem_of_getElem? HZJ.out); have := HBDS.out; have := HSS.out; omega))
        have hrq : rdPols F.heap.size F (some ⟨gp, 0, none⟩) (C.pols.set j y') := by
          rw [← HCY.out]
          refine gr_pols (wS := wS) (m := m) HCELL.out (by rw [hFs]; have := HSZD.out; have := HGZ.out z (List.mem_of_getElem? HZJ.out); have := HBDS.out; have := HSS.out; omega) HZX.out HZP.out (fun q hq => ⟨(HZZ.out q hq).1, by have := (HZZ.out q hq).2.1; have := HGZ.out z (List.mem_of_getElem? HZJ.out); have := HBDS.out; have := HSS.out; omega, (HZZ.out q hq).2.2.1, HGZ.out q hq⟩) HZJ.out (by rw [hFs]; have := HSZD.out; have := HGZ.out z (List.mem_of_getElem? HZJ.out); have := HBDS.out; have := HSS.out; omega) (fun b h1 h2 h3 => (hF1 b h3).trans (HFS.out b h1 h2)) (fun i t u hne ht hu => (hFo _ (by omega)).trans ((World.cell?_of_block (a := ⟨gp, i * 6 + t, none⟩) (HFS.out gp (by have := HGZ.out z (List.mem_of_getElem? HZJ.out); have := HBDS.out; have := HSS.out; omega) (by have := HGZ.out z (List.mem_of_getElem? HZJ.out); have := HBDS.out; have := HSS.out; omega))).trans hu)) ?_ (by rw [HYL.out]; omega) (fun y hy => ?_)
          · rw [hy']
            refine ⟨hFin.1, hFin.2.1, hFin.2.2.1, by have e := hFin.2.2.2.1; rw [HWE.out] at e; exact e, ⟨oa, oc, ?_, HOF.out F (fun b h1 h2 => ?_) (by rw [hFs]; exact HSTG2.out.1.2.2.2)⟩, ia, ic, ?_, HIF.out F (fun b h1 h2 => ?_) (by rw [hFs]; exact Nat.le_refl _)⟩
            · have e := hFin.2.2.2.2.1
              first | exact e | (rw [show (addRule z.x.d xr.d false false).outs.length = z.x.d.outs.length + 1 by simp [addRule]]; exact e)
            · simp only [Bool.or_eq_false_iff, Bool.and_eq_false_iff, decide_eq_false_iff_not] at h2
              exact (hF1 b (by omega)).trans (HSTG2.out.2 b h1 (by omega) (by omega))
            · have e := hFin.2.2.2.2.2
              first | exact e | (rw [show (addRule z.x.d xr.d false false).ins.length = z.x.d.ins.length + 1 by simp [addRule]]; exact e)
            · simp only [Bool.or_eq_false_iff, decide_eq_false_iff_not] at h2
              exact hF1 b h2.1
          · have hp := (right_zero HR.out).2 y.d (by rw [← HCY.out]; exact List.mem_map.2 ⟨y, hy, rfl⟩)
            simp only [polOk, Bool.and_eq_true, rulesOk, few, btw, decide_eq_true_eq, Bool.or_eq_true] at hp
            omega
        have HIM2 := hid (show av = true → (may A 1 x x.src x.dst && may A 2 x x.dst x.src) = true from fun h => by
          rw [HAV.out, Bool.and_eq_true] at h
          rw [hA, Bool.and_eq_true, hy']
          exact ⟨more_may (y' := addRule z.x.d xr.d false false) HDJ.out (fun _ _ => rfl) (fun _ _ _ hl => addRule_lets hl) h.1, more_may (y' := addRule z.x.d xr.d false false) HDJ.out (fun _ _ => rfl) (fun _ _ _ hl => addRule_lets hl) h.2⟩)
        have EA := hid (show A.pods = C.pods by rw [hA])
        have EB := hid (show A.pols = C.pols.set j y' by rw [hA])
        have HRP9 := hid hrp
        have HRQ9 := hid hrq
        clear hF1 hFs hFin hFo hFB hrp hrq hy' hA
        refine (keepAllowed_len A x a (some ⟨gp, 0, none⟩) n n' C.pods.length C.pols.length F (by rw [EA.out]) (by rw [EB.out, List.length_set]) (by rw [EA.out]; exact HRP9.out) (by rw [EB.out]; exact HRQ9.out) (by rw [EA.out]; exact HN.out) (by rw [hrA]) HPX.out).mono ?_
        generalize (may A 1 x x.src x.dst && may A 2 x x.dst x.src) = b2 at HIM2
        rintro e wF ⟨rfl, hbF⟩
        have HFIN := hid (Ext.trans HFB.out hbF)
        clear hbF hrA
        have hcase2 : b2 = true ∨ (b2 = false ∧ av = false) := by
          cases b2
          · refine .inr ⟨rfl, ?_⟩
            cases hv : av
            · rfl
            · exact absurd (HIM2.out hv) (by decide)
          · exact .inl rfl
        rcases hcase2 with rfl | ⟨rfl, hav0⟩
        · go_wp2
          go_ret
          exact ⟨by simp, HFIN.out⟩
        · first
            | (exfalso; have h1 := hav1; rw [hav0] at h1; cases h1; done)
            | (go_wp2
               go_ret
               exact ⟨by simp, HFIN.out⟩)
    · by_cases hii : z.x.d.ins.length < 2
      · have zi : (z.x.d.ins.length : Int) < 2 := by omega
        go_upto_region 21 with fail
        obtain ⟨YC, hYC⟩ : ∃ YC, YC = YB := ⟨_, rfl⟩
        have HSTG1 := hid (show Stg wR.heap.size z.lo z.mid YB YC by rw [hYC]; exact Stg.refl _ _ _ _)
        have KYC := hid (show YC.heap[wR.heap.size]? = some (.cells #[.int .i64 z.x.d.space, .int .i64 z.x.d.need, .int .i64 z.x.d.ban, .int .i64 2, .slice oa z.x.d.outs.length oc, .slice ia z.x.d.ins.length ic] 59 (0, 0)) by rw [hYC]; exact KY.out)
        have HOF := hid (show ∀ F : World, (∀ b, b < YC.heap.size → (fun b => (decide (z.mid ≤ b) && decide (b < z.hi)) || decide (b = gp) || decide (b = wR.heap.size)) b = false → F.heap[b]? = YC.heap[b]?) → YC.heap.size ≤ F.heap.size → rdRules F.heap.size F oa z.x.d.outs from fun F hF hFs => gr_same HRO.out (by rw [HOV.out, HOL.out]) (fun b h1 h2 => by rw [hYC]; exact HBSY.out.block b (by have := HGZ.out z (List.mem_of_getElem? HZJ.out); have := HBDS.out; have := HSS.out; omega)) (by rw [hYC]; have := HGZ.out z (List.mem_of_getElem? HZJ.out); have := HBDS.out; have := HSS.out; omega) (by omega) F (fun b h1 h2 => hF b (by rw [hYC]; have := HGZ.out z (List.mem_of_getElem? HZJ.out); have := HBDS.out; have := HSS.out; omega) (by have := HGZ.out z (List.mem_of_getElem? HZJ.out); have := HBDS.out; have := HSS.out; simp; omega)) hFs)
        rw [← hYC]
        clear hYC c3 c4 c5 cf
        have c3 : YC.cell? ⟨wR.heap.size, 3, none⟩ = some (.int .i64 2) := (blk_cell KYC.out 3).trans rfl
        have c5 : YC.cell? ⟨wR.heap.size, 5, none⟩ = some (.slice ia z.x.d.ins.length ic) := (blk_cell KYC.out 5).trans rfl
        have cf := blk_frozen KYC.out
        have HIC := hid (show YC.ownsRow z.mid 64 2 (.slice ia z.x.d.ins.length ic) z.x.d.ins.length (xi.flatMap encXRule) from own_stay HIY.out fun g hg => HSTG1.out.2 g (HIY.out.lt g hg).2 (by have := HIB.out g hg; have := HGZ.out z (List.mem_of_getElem? HZJ.out); have := HBDS.out; have := HSS.out; omega) (by have := HIB.out g hg; omega))
        have hrgb := HSTG1.out.2 rg (by have := HGZ.out z (List.mem_of_getElem? HZJ.out); have := HBDS.out; have := HSS.out; omega) (by have := HGZ.out z (List.mem_of_getElem? HZJ.out); have := HBDS.out; have := HSS.out; omega) (by have := HGZ.out z (List.mem_of_getElem? HZJ.out); have := HBDS.out; have := HSS.out; omega)
        have HXCC := hid (xr_cells (xr := xr) ((World.cell?_of_block (a := ⟨rg, 0, none⟩) hrgb).trans (cell_to HW0.out HBYB.out)) ((World.cell?_of_block (a := ⟨rg, 1, none⟩) hrgb).trans (cell_to HW1.out HBYB.out)))
        clear hrgb
        have HSZC := hid HSTG1.out.1.2.2.2
        go_upto_region 23 with (at_builtin; go_must (refine wpList_append_own_at _ rfl _ _ 57 rfl z.mid 64 ir0 _ 2 48 Tryz.underlying57 hir irz0 irz1 irz2 rfl (by decide) _ _ _ rfl HIC.out ⟨rg, 0, none⟩ 1 gc (encXRule xr) rfl rfl HXCC.out (encXRule_one _) (by unfold maxLen; omega) (by omega) (by have := HBDS.out; have := HSS.out; have := HSZC.out; omega) ?_); intro v8 w8 hown8 hg8 hnil8 hat8; obtain ⟨a8, c8, hv8, hc8, _⟩ := own_slice hown8; subst hv8; have HO8 := hid hown8; have HG8 := hid hg8; have HA8 := hid hat8; have KY8 := hid ((hg8.block wR.heap.size (by have := HSS.out; have := HSZC.out; omega) (fun e => by have := HIB.out _ e.symm; have := HBDS.out; have := HSS.out; omega)).trans KYC.out); have f5 := blk_cell KY8.out; have ff := blk_frozen KY8.out; clear hown8 hg8 hnil8 hat8 hc8 c3 c5 cf)
        obtain ⟨a9, c9, e9, _, hof⟩ := gr_more (i := 5) (u := .slice a8 (z.x.d.ins.length + 1) c8) (yb := wR.heap.size) (H := (fun b => decide (b = gp) || decide (b = wR.heap.size))) (v := .slice ia z.x.d.ins.length ic) HI1.out (by rw [← HIL.out, ← HIV.out]; exact HI4.out) (fun b h1 h2 => (HSTG1.out.2 b (by have := HGZ.out z (List.mem_of_getElem? HZJ.out); have := HBDS.out; have := HSS.out; omega) (by have := HGZ.out z (List.mem_of_getElem? HZJ.out); have := HBDS.out; have := HSS.out; omega) (by omega)).trans (HBSY.out.block b (by have := HGZ.out z (List.mem_of_getElem? HZJ.out); have := HBDS.out; have := HSS.out; omega))) (fun b h1 h2 => (HSTG1.out.2 b (by have := HGZ.out z (List.mem_of_getElem? HZJ.out); have := HBDS.out; have := HSS.out; omega) (by omega) (by have := HGZ.out z (List.mem_of_getElem? HZJ.out); have := HBDS.out; have := HSS.out; omega)).trans (HBYB.out.block b h2)) (Nat.le_trans HBYB.out.size HSZC.out) (by have := HGZ.out z (List.mem_of_getElem? HZJ.out); have := HBDS.out; have := HSS.out; omega) (by have := HGZ.out z (List.mem_of_getElem? HZJ.out); have := HBDS.out; have := HSS.out; omega) (by rw [HIL.out]; exact HIC.out) (fun g hg => (HIB.out g hg).2) HNR.out HG8.out (by rw [HIL.out]; exact HO8.out) HA8.out (by omega) (fun b h1 h2 => by have := HGZ.out z (List.mem_of_getElem? HZJ.out); have := HBDS.out; have := HSS.out; simp; omega) (fun b h1 h2 => by have := HGZ.out z (List.mem_of_getElem? HZJ.out); have := HBDS.out; have := HSS.out; simp; omega) (by have := HGZ.out z (List.mem_of_getElem? HZJ.out); have := HBDS.out; have := HSS.out; have := HSZC.out; simp; omega) (by simp)
        injection e9 with q1 q2 q3
        clear q2 q3
        subst q1
        have HIF := hid (show ∀ F : World, (∀ b, b < (w8.setCell ⟨wR.heap.size, 5, none⟩ (.slice a8 (z.x.d.ins.length + 1) c8)).heap.size → (fun b => decide (b = gp) || decide (b = wR.heap.size)) b = false → F.heap[b]? = (w8.setCell ⟨wR.heap.size, 5, none⟩ (.slice a8 (z.x.d.ins.length + 1) c8)).heap[b]?) → (w8.setCell ⟨wR.heap.size, 5, none⟩ (.slice a8 (z.x.d.ins.length + 1) c8)).heap.size ≤ F.heap.size → rdRules F.heap.size F a8 (z.x.d.ins ++ [xr.d]) from fun F hF hFs => hof F (fun b hb hH => hF b (by rw [World.size_setCell]; exact hb) hH) (by rw [World.size_setCell] at hFs; exact hFs))
        have HSTG2 := hid (Stg.app (yb := wR.heap.size) 5 (.slice a8 (z.x.d.ins.length + 1) c8) HG8.out HIB.out)
        have KYD := hid (show (w8.setCell ⟨wR.heap.size, 5, none⟩ (.slice a8 (z.x.d.ins.length + 1) c8)).heap[wR.heap.size]? = some (.cells #[.int .i64 z.x.d.space, .int .i64 z.x.d.need, .int .i64 z.x.d.ban, .int .i64 2, .slice oa z.x.d.outs.length oc, .slice a8 (z.x.d.ins.length + 1) c8] 59 (0, 0)) from (set_blk KY8.out 5 _).trans rfl)
        generalize w8.setCell ⟨wR.heap.size, 5, none⟩ (.slice a8 (z.x.d.ins.length + 1) c8) = YD at HSTG2 KYD HIF ⊢
        clear f5 ff hof
        have HSZD := hid (Nat.le_trans HSZC.out HSTG2.out.1.2.2.2)
        have HFD := hid (show ∀ b, b < YB.heap.size → b ≠ wR.heap.size → ¬ (z.lo ≤ b ∧ b < z.hi) → YD.heap[b]? = YB.heap[b]? from fun b h1 h2 h3 => (HSTG2.out.2 b (Nat.lt_of_lt_of_le h1 HSZC.out) h2 (by have := HBDS.out; omega)).trans (HSTG1.out.2 b h1 h2 (by have := HBDS.out; omega)))
        have HFS := hid (show ∀ b, b < wS.heap.size → ¬ (z.lo ≤ b ∧ b < z.hi) → YD.heap[b]? = wS.heap[b]? from fun b h1 h2 => (HFD.out b (by have := HGZ.out z (List.mem_of_getElem? HZJ.out); have := HBDS.out; have := HSS.out; omega) (by have := HGZ.out z (List.mem_of_getElem? HZJ.out); have := HBDS.out; have := HSS.out; omega) h2).trans (HBSY.out.block b h1))
        have HGD := hid ((HFS.out gp (by have := HGZ.out z (List.mem_of_getElem? HZJ.out); have := HBDS.out; have := HSS.out; omega) (by have := HGZ.out z (List.mem_of_getElem? HZJ.out); have := HBDS.out; have := HSS.out; omega)).trans HGB.out)
        have hgd := HFS.out gp (by have := HGZ.out z (List.mem_of_getElem? HZJ.out); have := HBDS.out; have := HSS.out; omega) (by have := HGZ.out z (List.mem_of_getElem? HZJ.out); have := HBDS.out; have := HSS.out; omega)
        have g0 := (World.cell?_of_block (a := ⟨gp, j * 6, none⟩) hgd).trans HE.out.1
        have g1 := (World.cell?_of_block (a := ⟨gp, j * 6 + 1, none⟩) hgd).trans HE.out.2.1
        have g2 := (World.cell?_of_block (a := ⟨gp, j * 6 + 2, none⟩) hgd).trans HE.out.2.2.1
        have g3 := (World.cell?_of_block (a := ⟨gp, j * 6 + 3, none⟩) hgd).trans HE.out.2.2.2.1
        have g4 := (World.cell?_of_block (a := ⟨gp, j * 6 + 4, none⟩) hgd).trans HE.out.2.2.2.2.1
        have g5 := (World.cell?_of_block (a := ⟨gp, j * 6 + 5, none⟩) hgd).trans HE.out.2.2.2.2.2
        have gfz := blk_frozen HGD.out
        have KCD := (HFS.out wB.heap.size (by have := HGZ.out z (List.mem_of_getElem? HZJ.out); have := HBDS.out; have := HSS.out; omega) (by have := HGZ.out z (List.mem_of_getElem? HZJ.out); have := HBDS.out; have := HSS.out; omega)).trans KCS.out
        have KPD := (HFS.out wP.heap.size (by have := HGZ.out z (List.mem_of_getElem? HZJ.out); have := HBDS.out; have := HSS.out; omega) (by have := HGZ.out z (List.mem_of_getElem? HZJ.out); have := HBDS.out; have := HSS.out; omega)).trans KPS.out
        have i0 : YD.cell? ⟨wB.heap.size, 0, none⟩ = some (.slice a C.pods.length n) := (blk_cell KCD 0).trans rfl
        have i1 : YD.cell? ⟨wB.heap.size, 1, none⟩ = some (.slice (some ⟨gp, 0, none⟩) C.pols.length n') := (blk_cell KCD 1).trans rfl
        have i2 : YD.cell? ⟨wP.heap.size, 0, none⟩ = some (.int .i64 x.src) := (blk_cell KPD 0).trans rfl
        have i3 : YD.cell? ⟨wP.heap.size, 1, none⟩ = some (.int .i64 x.dst) := (blk_cell KPD 1).trans rfl
        have i4 : YD.cell? ⟨wP.heap.size, 2, none⟩ = some (.int .i64 x.proto) := (blk_cell KPD 2).trans rfl
        have i5 : YD.cell? ⟨wP.heap.size, 3, none⟩ = some (.int .i64 x.port) := (blk_cell KPD 3).trans rfl
        have d0 : YD.cell? ⟨wR.heap.size, 0, none⟩ = some (.int .i64 z.x.d.space) := (blk_cell KYD.out 0).trans rfl
        have d1 : YD.cell? ⟨wR.heap.size, 1, none⟩ = some (.int .i64 z.x.d.need) := (blk_cell KYD.out 1).trans rfl
        have d2 : YD.cell? ⟨wR.heap.size, 2, none⟩ = some (.int .i64 z.x.d.ban) := (blk_cell KYD.out 2).trans rfl
        have d3 : YD.cell? ⟨wR.heap.size, 3, none⟩ = some (.int .i64 2) := (blk_cell KYD.out 3).trans rfl
        have d4 : YD.cell? ⟨wR.heap.size, 4, none⟩ = some (.slice oa z.x.d.outs.length oc) := (blk_cell KYD.out 4).trans rfl
        have d5 : YD.cell? ⟨wR.heap.size, 5, none⟩ = some (.slice a8 (z.x.d.ins.length + 1) c8) := (blk_cell KYD.out 5).trans rfl
        have n1 : ¬ gp = wB.heap.size := by have := HGZ.out z (List.mem_of_getElem? HZJ.out); have := HBDS.out; have := HSS.out; omega
        have n2 : ¬ wB.heap.size = gp := by have := HGZ.out z (List.mem_of_getElem? HZJ.out); have := HBDS.out; have := HSS.out; omega
        have n3 : ¬ gp = wP.heap.size := by have := HGZ.out z (List.mem_of_getElem? HZJ.out); have := HBDS.out; have := HSS.out; omega
        have n4 : ¬ wP.heap.size = gp := by have := HGZ.out z (List.mem_of_getElem? HZJ.out); have := HBDS.out; have := HSS.out; omega
        clear hgd KCD KPD
        go_wp2_with fail
        have hF1 := put6_far YD gp (j * 6) (.int .i64 z.x.d.space) (.int .i64 z.x.d.need) (.int .i64 z.x.d.ban) (.int .i64 2) (.slice oa z.x.d.outs.length oc) (.slice a8 (z.x.d.ins.length + 1) c8)
        have hFs := put6_size YD gp (j * 6) (.int .i64 z.x.d.space) (.int .i64 z.x.d.need) (.int .i64 z.x.d.ban) (.int .i64 2) (.slice oa z.x.d.outs.length oc) (.slice a8 (z.x.d.ins.length + 1) c8)
        have hFin := put6_in (w := YD) (g := gp) (o := j * 6) (a0 := .int .i64 z.x.d.space) (a1 := .int .i64 z.x.d.need) (a2 := .int .i64 z.x.d.ban) (a3 := .int .i64 2) (a4 := .slice oa z.x.d.outs.length oc) (a5 := .slice a8 (z.x.d.ins.length + 1) c8) HGD.out HCS6.out
        have hFo : ∀ i, (i < j * 6 ∨ j * 6 + 6 ≤ i) → (put6 YD gp (j * 6) (.int .i64 z.x.d.space) (.int .i64 z.x.d.need) (.int .i64 z.x.d.ban) (.int .i64 2) (.slice oa z.x.d.outs.length oc) (.slice a8 (z.x.d.ins.length + 1) c8)).cell? ⟨gp, i, none⟩ = YD.cell? ⟨gp, i, none⟩ := fun i hi => put6_out HGD.out hi
        have hFB : Below w.heap.size w (put6 YD gp (j * 6) (.int .i64 z.x.d.space) (.int .i64 z.x.d.need) (.int .i64 z.x.d.ban) (.int .i64 2) (.slice oa z.x.d.outs.length oc) (.slice a8 (z.x.d.ins.length + 1) c8)) := put6_below (((Ext.trans HBwS.out HBSY.out).trans (HSTG1.out.below (by have := HGZ.out z (List.mem_of_getElem? HZJ.out); have := HBDS.out; have := HSS.out; omega) (by have := HGZ.out z (List.mem_of_getElem? HZJ.out); have := HBDS.out; have := HSS.out; omega) (by have := HGZ.out z (List.mem_of_getElem? HZJ.out); have := HBDS.out; have := HSS.out; omega))).trans (HSTG2.out.below (by have := HGZ.out z (List.mem_of_getElem? HZJ.out); have := HBDS.out; have := HSS.out; omega) (by have := HGZ.out z (List.mem_of_getElem? HZJ.out); have := HBDS.out; have := HSS.out; omega) (by have := HSZC.out; have := HGZ.out z (List.mem_of_getElem? HZJ.out); have := HBDS.out; have := HSS.out; omega))) (by have := HGZ.out z (List.mem_of_getElem? HZJ.out); have := HBDS.out; have := HSS.out; omega)
        show Calls _ _ _ (put6 YD gp (j * 6) (.int .i64 z.x.d.space) (.int .i64 z.x.d.need) (.int .i64 z.x.d.ban) (.int .i64 2) (.slice oa z.x.d.outs.length oc) (.slice a8 (z.x.d.ins.length + 1) c8)) _
        generalize put6 YD gp (j * 6) (.int .i64 z.x.d.space) (.int .i64 z.x.d.need) (.int .i64 z.x.d.ban) (.int .i64 2) (.slice oa z.x.d.outs.length oc) (.slice a8 (z.x.d.ins.length + 1) c8) = F at hF1 hFs hFin hFo hFB ⊢
        clear g0 g1 g2 g3 g4 g5 gfz i0 i1 i2 i3 i4 i5 d0 d1 d2 d3 d4 d5 n1 n2 n3 n4
        have HFB := hid hFB
        obtain ⟨y', hy'⟩ : ∃ y', y' = addRule z.x.d xr.d false true := ⟨_, rfl⟩
        have HPY := hid (show polOk y' = true by rw [hy']; exact addRule_ok HPOK.out (by rw [HXD.out]; exact mkRule_ok r) (fun h => by cases h) (fun _ => by have := HWE.out; omega))
        have hrA := set_right (i := j) HR.out HPY.out
        obtain ⟨A, hA⟩ : ∃ A : DClu, A = ⟨C.pods, C.pols.set j y'⟩ := ⟨_, rfl⟩
        rw [← hA] at hrA
        have hrp : rdPods F.heap.size F a C.pods := by
          have hup := HUP.out
          rw [HCP.out] at hup
          exact gr_pods hup HVM.out HL4.out.1 fun b h1 h2 => (hF1 b (by have := HGZ.out z (List.mem_of_getElem? HZJ.out); have := HBDS.out; have := HSS.out; omega)).trans (HFS.out b h1 (by have := HGZ.out z (List.mem_of_getElem? HZJ.out); have := HBDS.out; have := HSS.out; omega))
        have hrq : rdPols F.heap.size F (some ⟨gp, 0, none⟩) (C.pols.set j y') := by
          rw [← HCY.out]
          refine gr_pols (wS := wS) (m := m) HCELL.out (by rw [hFs]; have := HSZD.out; have := HGZ.out z (List.mem_of_getElem? HZJ.out); have := HBDS.out; have := HSS.out; omega) HZX.out HZP.out (fun q hq => ⟨(HZZ.out q hq).1, by have := (HZZ.out q hq).2.1; have := HGZ.out z (List.mem_of_getElem? HZJ.out); have := HBDS.out; have := HSS.out; omega, (HZZ.out q hq).2.2.1, HGZ.out q hq⟩) HZJ.out (by rw [hFs]; have := HSZD.out; have := HGZ.out z (List.mem_of_getElem? HZJ.out); have := HBDS.out; have := HSS.out; omega) (fun b h1 h2 h3 => (hF1 b h3).trans (HFS.out b h1 h2)) (fun i t u hne ht hu => (hFo _ (by omega)).trans ((World.cell?_of_block (a := ⟨gp, i * 6 + t, none⟩) (HFS.out gp (by have := HGZ.out z (List.mem_of_getElem? HZJ.out); have := HBDS.out; have := HSS.out; omega) (by have := HGZ.out z (List.mem_of_getElem? HZJ.out); have := HBDS.out; have := HSS.out; omega))).trans hu)) ?_ (by rw [HYL.out]; omega) (fun y hy => ?_)
          · rw [hy']
            refine ⟨hFin.1, hFin.2.1, hFin.2.2.1, by have e := hFin.2.2.2.1; rw [HWE.out] at e; exact e, ⟨oa, oc, ?_, HOF.out F (fun b h1 h2 => ?_) (by rw [hFs]; exact HSTG2.out.1.2.2.2)⟩, a8, c8, ?_, HIF.out F (fun b h1 h2 => ?_) (by rw [hFs]; exact Nat.le_refl _)⟩
            · have e := hFin.2.2.2.2.1
              first | exact e | (rw [show (addRule z.x.d xr.d false true).outs.length = z.x.d.outs.length + 1 by simp [addRule]]; exact e)
            · simp only [Bool.or_eq_false_iff, Bool.and_eq_false_iff, decide_eq_false_iff_not] at h2
              exact (hF1 b (by omega)).trans (HSTG2.out.2 b h1 (by omega) (by omega))
            · have e := hFin.2.2.2.2.2
              first | exact e | (rw [show (addRule z.x.d xr.d false true).ins.length = z.x.d.ins.length + 1 by simp [addRule]]; exact e)
            · simp only [Bool.or_eq_false_iff, decide_eq_false_iff_not] at h2
              exact hF1 b h2.1
          · have hp := (right_zero HR.out).2 y.d (by rw [← HCY.out]; exact List.mem_map.2 ⟨y, hy, rfl⟩)
            simp only [polOk, Bool.and_eq_true, rulesOk, few, btw, decide_eq_true_eq, Bool.or_eq_true] at hp
            omega
        have HIM2 := hid (show av = true → (may A 1 x x.src x.dst && may A 2 x x.dst x.src) = true from fun h => by
          rw [HAV.out, Bool.and_eq_true] at h
          rw [hA, Bool.and_eq_true, hy']
          exact ⟨more_may (y' := addRule z.x.d xr.d false true) HDJ.out (fun _ _ => rfl) (fun _ _ _ hl => addRule_lets hl) h.1, more_may (y' := addRule z.x.d xr.d false true) HDJ.out (fun _ _ => rfl) (fun _ _ _ hl => addRule_lets hl) h.2⟩)
        have EA := hid (show A.pods = C.pods by rw [hA])
        have EB := hid (show A.pols = C.pols.set j y' by rw [hA])
        have HRP9 := hid hrp
        have HRQ9 := hid hrq
        clear hF1 hFs hFin hFo hFB hrp hrq hy' hA
        refine (keepAllowed_len A x a (some ⟨gp, 0, none⟩) n n' C.pods.length C.pols.length F (by rw [EA.out]) (by rw [EB.out, List.length_set]) (by rw [EA.out]; exact HRP9.out) (by rw [EB.out]; exact HRQ9.out) (by rw [EA.out]; exact HN.out) (by rw [hrA]) HPX.out).mono ?_
        generalize (may A 1 x x.src x.dst && may A 2 x x.dst x.src) = b2 at HIM2
        rintro e wF ⟨rfl, hbF⟩
        have HFIN := hid (Ext.trans HFB.out hbF)
        clear hbF hrA
        have hcase2 : b2 = true ∨ (b2 = false ∧ av = false) := by
          cases b2
          · refine .inr ⟨rfl, ?_⟩
            cases hv : av
            · rfl
            · exact absurd (HIM2.out hv) (by decide)
          · exact .inl rfl
        rcases hcase2 with rfl | ⟨rfl, hav0⟩
        · go_wp2
          go_ret
          exact ⟨by simp, HFIN.out⟩
        · first
            | (exfalso; have h1 := hav1; rw [hav0] at h1; cases h1; done)
            | (go_wp2
               go_ret
               exact ⟨by simp, HFIN.out⟩)
      · have zi : ¬ (z.x.d.ins.length : Int) < 2 := by omega
        go_upto_region 21 with fail
        obtain ⟨YC, hYC⟩ : ∃ YC, YC = YB := ⟨_, rfl⟩
        have HSTG1 := hid (show Stg wR.heap.size z.lo z.mid YB YC by rw [hYC]; exact Stg.refl _ _ _ _)
        have KYC := hid (show YC.heap[wR.heap.size]? = some (.cells #[.int .i64 z.x.d.space, .int .i64 z.x.d.need, .int .i64 z.x.d.ban, .int .i64 2, .slice oa z.x.d.outs.length oc, .slice ia z.x.d.ins.length ic] 59 (0, 0)) by rw [hYC]; exact KY.out)
        have HOF := hid (show ∀ F : World, (∀ b, b < YC.heap.size → (fun b => (decide (z.mid ≤ b) && decide (b < z.hi)) || decide (b = gp) || decide (b = wR.heap.size)) b = false → F.heap[b]? = YC.heap[b]?) → YC.heap.size ≤ F.heap.size → rdRules F.heap.size F oa z.x.d.outs from fun F hF hFs => gr_same HRO.out (by rw [HOV.out, HOL.out]) (fun b h1 h2 => by rw [hYC]; exact HBSY.out.block b (by have := HGZ.out z (List.mem_of_getElem? HZJ.out); have := HBDS.out; have := HSS.out; omega)) (by rw [hYC]; have := HGZ.out z (List.mem_of_getElem? HZJ.out); have := HBDS.out; have := HSS.out; omega) (by omega) F (fun b h1 h2 => hF b (by rw [hYC]; have := HGZ.out z (List.mem_of_getElem? HZJ.out); have := HBDS.out; have := HSS.out; omega) (by have := HGZ.out z (List.mem_of_getElem? HZJ.out); have := HBDS.out; have := HSS.out; simp; omega)) hFs)
        rw [← hYC]
        clear hYC c3 c4 c5 cf
        have c3 : YC.cell? ⟨wR.heap.size, 3, none⟩ = some (.int .i64 2) := (blk_cell KYC.out 3).trans rfl
        have c5 : YC.cell? ⟨wR.heap.size, 5, none⟩ = some (.slice ia z.x.d.ins.length ic) := (blk_cell KYC.out 5).trans rfl
        have cf := blk_frozen KYC.out
        go_upto_region 23 with fail
        obtain ⟨YD, hYD⟩ : ∃ YD, YD = YC := ⟨_, rfl⟩
        have HSZC := hid HSTG1.out.1.2.2.2
        have HSTG2 := hid (show Stg wR.heap.size z.mid z.hi YC YD by rw [hYD]; exact Stg.refl _ _ _ _)
        have KYD := hid (show YD.heap[wR.heap.size]? = some (.cells #[.int .i64 z.x.d.space, .int .i64 z.x.d.need, .int .i64 z.x.d.ban, .int .i64 2, .slice oa z.x.d.outs.length oc, .slice ia z.x.d.ins.length ic] 59 (0, 0)) by rw [hYD]; exact KYC.out)
        have HIF := hid (show ∀ F : World, (∀ b, b < YD.heap.size → (fun b => decide (b = gp) || decide (b = wR.heap.size)) b = false → F.heap[b]? = YD.heap[b]?) → YD.heap.size ≤ F.heap.size → rdRules F.heap.size F ia z.x.d.ins from fun F hF hFs => gr_same HRI.out (by rw [HIV.out, HIL.out]) (fun b h1 h2 => by rw [hYD]; exact (HSTG1.out.2 b (by have := HGZ.out z (List.mem_of_getElem? HZJ.out); have := HBDS.out; have := HSS.out; omega) (by have := HGZ.out z (List.mem_of_getElem? HZJ.out); have := HBDS.out; have := HSS.out; omega) (by omega)).trans (HBSY.out.block b (by have := HGZ.out z (List.mem_of_getElem? HZJ.out); have := HBDS.out; have := HSS.out; omega))) (by rw [hYD]; have := HSZC.out; have := HGZ.out z (List.mem_of_getElem? HZJ.out); have := HBDS.out; have := HSS.out; omega) (by omega) F (fun b h1 h2 => hF b (by rw [hYD]; have := HSZC.out; have := HGZ.out z (List.mem_of_getElem? HZJ.out); have := HBDS.out; have := HSS.out; omega) (by have := HGZ.out z (List.mem_of_getElem? HZJ.out); have := HBDS.out; have := HSS.out; simp; omega)) hFs)
        rw [← hYD]
        clear hYD c3 c5 cf
        have HSZD := hid (Nat.le_trans HSZC.out HSTG2.out.1.2.2.2)
        have HFD := hid (show ∀ b, b < YB.heap.size → b ≠ wR.heap.size → ¬ (z.lo ≤ b ∧ b < z.hi) → YD.heap[b]? = YB.heap[b]? from fun b h1 h2 h3 => (HSTG2.out.2 b (Nat.lt_of_lt_of_le h1 HSZC.out) h2 (by have := HBDS.out; omega)).trans (HSTG1.out.2 b h1 h2 (by have := HBDS.out; omega)))
        have HFS := hid (show ∀ b, b < wS.heap.size → ¬ (z.lo ≤ b ∧ b < z.hi) → YD.heap[b]? = wS.heap[b]? from fun b h1 h2 => (HFD.out b (by have := HGZ.out z (List.mem_of_getElem? HZJ.out); have := HBDS.out; have := HSS.out; omega) (by have := HGZ.out z (List.mem_of_getElem? HZJ.out); have := HBDS.out; have := HSS.out; omega) h2).trans (HBSY.out.block b h1))
        have HGD := hid ((HFS.out gp (by have := HGZ.out z (List.mem_of_getElem? HZJ.out); have := HBDS.out; have := HSS.out; omega) (by have := HGZ.out z (List.mem_of_getElem? HZJ.out); have := HBDS.out; have := HSS.out; omega)).trans HGB.out)
        have hgd := HFS.out gp (by have := HGZ.out z (List.mem_of_getElem? HZJ.out); have := HBDS.out; have := HSS.out; omega) (by have := HGZ.out z (List.mem_of_getElem? HZJ.out); have := HBDS.out; have := HSS.out; omega)
        have g0 := (World.cell?_of_block (a := ⟨gp, j * 6, none⟩) hgd).trans HE.out.1
        have g1 := (World.cell?_of_block (a := ⟨gp, j * 6 + 1, none⟩) hgd).trans HE.out.2.1
        have g2 := (World.cell?_of_block (a := ⟨gp, j * 6 + 2, none⟩) hgd).trans HE.out.2.2.1
        have g3 := (World.cell?_of_block (a := ⟨gp, j * 6 + 3, none⟩) hgd).trans HE.out.2.2.2.1
        have g4 := (World.cell?_of_block (a := ⟨gp, j * 6 + 4, none⟩) hgd).trans HE.out.2.2.2.2.1
        have g5 := (World.cell?_of_block (a := ⟨gp, j * 6 + 5, none⟩) hgd).trans HE.out.2.2.2.2.2
        have gfz := blk_frozen HGD.out
        have KCD := (HFS.out wB.heap.size (by have := HGZ.out z (List.mem_of_getElem? HZJ.out); have := HBDS.out; have := HSS.out; omega) (by have := HGZ.out z (List.mem_of_getElem? HZJ.out); have := HBDS.out; have := HSS.out; omega)).trans KCS.out
        have KPD := (HFS.out wP.heap.size (by have := HGZ.out z (List.mem_of_getElem? HZJ.out); have := HBDS.out; have := HSS.out; omega) (by have := HGZ.out z (List.mem_of_getElem? HZJ.out); have := HBDS.out; have := HSS.out; omega)).trans KPS.out
        have i0 : YD.cell? ⟨wB.heap.size, 0, none⟩ = some (.slice a C.pods.length n) := (blk_cell KCD 0).trans rfl
        have i1 : YD.cell? ⟨wB.heap.size, 1, none⟩ = some (.slice (some ⟨gp, 0, none⟩) C.pols.length n') := (blk_cell KCD 1).trans rfl
        have i2 : YD.cell? ⟨wP.heap.size, 0, none⟩ = some (.int .i64 x.src) := (blk_cell KPD 0).trans rfl
        have i3 : YD.cell? ⟨wP.heap.size, 1, none⟩ = some (.int .i64 x.dst) := (blk_cell KPD 1).trans rfl
        have i4 : YD.cell? ⟨wP.heap.size, 2, none⟩ = some (.int .i64 x.proto) := (blk_cell KPD 2).trans rfl
        have i5 : YD.cell? ⟨wP.heap.size, 3, none⟩ = some (.int .i64 x.port) := (blk_cell KPD 3).trans rfl
        have d0 : YD.cell? ⟨wR.heap.size, 0, none⟩ = some (.int .i64 z.x.d.space) := (blk_cell KYD.out 0).trans rfl
        have d1 : YD.cell? ⟨wR.heap.size, 1, none⟩ = some (.int .i64 z.x.d.need) := (blk_cell KYD.out 1).trans rfl
        have d2 : YD.cell? ⟨wR.heap.size, 2, none⟩ = some (.int .i64 z.x.d.ban) := (blk_cell KYD.out 2).trans rfl
        have d3 : YD.cell? ⟨wR.heap.size, 3, none⟩ = some (.int .i64 2) := (blk_cell KYD.out 3).trans rfl
        have d4 : YD.cell? ⟨wR.heap.size, 4, none⟩ = some (.slice oa z.x.d.outs.length oc) := (blk_cell KYD.out 4).trans rfl
        have d5 : YD.cell? ⟨wR.heap.size, 5, none⟩ = some (.slice ia z.x.d.ins.length ic) := (blk_cell KYD.out 5).trans rfl
        have n1 : ¬ gp = wB.heap.size := by have := HGZ.out z (List.mem_of_getElem? HZJ.out); have := HBDS.out; have := HSS.out; omega
        have n2 : ¬ wB.heap.size = gp := by have := HGZ.out z (List.mem_of_getElem? HZJ.out); have := HBDS.out; have := HSS.out; omega
        have n3 : ¬ gp = wP.heap.size := by have := HGZ.out z (List.mem_of_getElem? HZJ.out); have := HBDS.out; have := HSS.out; omega
        have n4 : ¬ wP.heap.size = gp := by have := HGZ.out z (List.mem_of_getElem? HZJ.out); have := HBDS.out; have := HSS.out; omega
        clear hgd KCD KPD
        go_wp2_with fail
        have hF1 := put6_far YD gp (j * 6) (.int .i64 z.x.d.space) (.int .i64 z.x.d.need) (.int .i64 z.x.d.ban) (.int .i64 2) (.slice oa z.x.d.outs.length oc) (.slice ia z.x.d.ins.length ic)
        have hFs := put6_size YD gp (j * 6) (.int .i64 z.x.d.space) (.int .i64 z.x.d.need) (.int .i64 z.x.d.ban) (.int .i64 2) (.slice oa z.x.d.outs.length oc) (.slice ia z.x.d.ins.length ic)
        have hFin := put6_in (w := YD) (g := gp) (o := j * 6) (a0 := .int .i64 z.x.d.space) (a1 := .int .i64 z.x.d.need) (a2 := .int .i64 z.x.d.ban) (a3 := .int .i64 2) (a4 := .slice oa z.x.d.outs.length oc) (a5 := .slice ia z.x.d.ins.length ic) HGD.out HCS6.out
        have hFo : ∀ i, (i < j * 6 ∨ j * 6 + 6 ≤ i) → (put6 YD gp (j * 6) (.int .i64 z.x.d.space) (.int .i64 z.x.d.need) (.int .i64 z.x.d.ban) (.int .i64 2) (.slice oa z.x.d.outs.length oc) (.slice ia z.x.d.ins.length ic)).cell? ⟨gp, i, none⟩ = YD.cell? ⟨gp, i, none⟩ := fun i hi => put6_out HGD.out hi
        have hFB : Below w.heap.size w (put6 YD gp (j * 6) (.int .i64 z.x.d.space) (.int .i64 z.x.d.need) (.int .i64 z.x.d.ban) (.int .i64 2) (.slice oa z.x.d.outs.length oc) (.slice ia z.x.d.ins.length ic)) := put6_below (((Ext.trans HBwS.out HBSY.out).trans (HSTG1.out.below (by have := HGZ.out z (List.mem_of_getElem? HZJ.out); have := HBDS.out; have := HSS.out; omega) (by have := HGZ.out z (List.mem_of_getElem? HZJ.out); have := HBDS.out; have := HSS.out; omega) (by have := HGZ.out z (List.mem_of_getElem? HZJ.out); have := HBDS.out; have := HSS.out; omega))).trans (HSTG2.out.below (by have := HGZ.out z (List.mem_of_getElem? HZJ.out); have := HBDS.out; have := HSS.out; omega) (by have := HGZ.out z (List.mem_of_getElem? HZJ.out); have := HBDS.out; have := HSS.out; omega) (by have := HSZC.out; have := HGZ.out z (List.mem_of_getElem? HZJ.out); have := HBDS.out; have := HSS.out; omega))) (by have := HGZ.out z (List.mem_of_getElem? HZJ.out); have := HBDS.out; have := HSS.out; omega)
        show Calls _ _ _ (put6 YD gp (j * 6) (.int .i64 z.x.d.space) (.int .i64 z.x.d.need) (.int .i64 z.x.d.ban) (.int .i64 2) (.slice oa z.x.d.outs.length oc) (.slice ia z.x.d.ins.length ic)) _
        generalize put6 YD gp (j * 6) (.int .i64 z.x.d.space) (.int .i64 z.x.d.need) (.int .i64 z.x.d.ban) (.int .i64 2) (.slice oa z.x.d.outs.length oc) (.slice ia z.x.d.ins.length ic) = F at hF1 hFs hFin hFo hFB ⊢
        clear g0 g1 g2 g3 g4 g5 gfz i0 i1 i2 i3 i4 i5 d0 d1 d2 d3 d4 d5 n1 n2 n3 n4
        have HFB := hid hFB
        obtain ⟨y', hy'⟩ : ∃ y', y' = addRule z.x.d xr.d false false := ⟨_, rfl⟩
        have HPY := hid (show polOk y' = true by rw [hy']; exact addRule_ok HPOK.out (by rw [HXD.out]; exact mkRule_ok r) (fun h => by cases h) (fun h => by cases h))
        have hrA := set_right (i := j) HR.out HPY.out
        obtain ⟨A, hA⟩ : ∃ A : DClu, A = ⟨C.pods, C.pols.set j y'⟩ := ⟨_, rfl⟩
        rw [← hA] at hrA
        have hrp : rdPods F.heap.size F a C.pods := by
          have hup := HUP.out
          rw [HCP.out] at hup
          exact gr_pods hup HVM.out HL4.out.1 fun b h1 h2 => (hF1 b (by have := HGZ.out z (List.mem_of_getElem? HZJ.out); have := HBDS.out; have := HSS.out; omega)).trans (HFS.out b h1 (by have := HGZ.out z (List.mem_of_getElem? HZJ.out); have := HBDS.out; have := HSS.out; omega))
        have hrq : rdPols F.heap.size F (some ⟨gp, 0, none⟩) (C.pols.set j y') := by
          rw [← HCY.out]
          refine gr_pols (wS := wS) (m := m) HCELL.out (by rw [hFs]; have := HSZD.out; have := HGZ.out z (List.mem_of_getElem? HZJ.out); have := HBDS.out; have := HSS.out; omega) HZX.out HZP.out (fun q hq => ⟨(HZZ.out q hq).1, by have := (HZZ.out q hq).2.1; have := HGZ.out z (List.mem_of_getElem? HZJ.out); have := HBDS.out; have := HSS.out; omega, (HZZ.out q hq).2.2.1, HGZ.out q hq⟩) HZJ.out (by rw [hFs]; have := HSZD.out; have := HGZ.out z (List.mem_of_getElem? HZJ.out); have := HBDS.out; have := HSS.out; omega) (fun b h1 h2 h3 => (hF1 b h3).trans (HFS.out b h1 h2)) (fun i t u hne ht hu => (hFo _ (by omega)).trans ((World.cell?_of_block (a := ⟨gp, i * 6 + t, none⟩) (HFS.out gp (by have := HGZ.out z (List.mem_of_getElem? HZJ.out); have := HBDS.out; have := HSS.out; omega) (by have := HGZ.out z (List.mem_of_getElem? HZJ.out); have := HBDS.out; have := HSS.out; omega))).trans hu)) ?_ (by rw [HYL.out]; omega) (fun y hy => ?_)
          · rw [hy']
            refine ⟨hFin.1, hFin.2.1, hFin.2.2.1, by have e := hFin.2.2.2.1; rw [HWE.out] at e; exact e, ⟨oa, oc, ?_, HOF.out F (fun b h1 h2 => ?_) (by rw [hFs]; exact HSTG2.out.1.2.2.2)⟩, ia, ic, ?_, HIF.out F (fun b h1 h2 => ?_) (by rw [hFs]; exact Nat.le_refl _)⟩
            · have e := hFin.2.2.2.2.1
              first | exact e | (rw [show (addRule z.x.d xr.d false false).outs.length = z.x.d.outs.length + 1 by simp [addRule]]; exact e)
            · simp only [Bool.or_eq_false_iff, Bool.and_eq_false_iff, decide_eq_false_iff_not] at h2
              exact (hF1 b (by omega)).trans (HSTG2.out.2 b h1 (by omega) (by omega))
            · have e := hFin.2.2.2.2.2
              first | exact e | (rw [show (addRule z.x.d xr.d false false).ins.length = z.x.d.ins.length + 1 by simp [addRule]]; exact e)
            · simp only [Bool.or_eq_false_iff, decide_eq_false_iff_not] at h2
              exact hF1 b h2.1
          · have hp := (right_zero HR.out).2 y.d (by rw [← HCY.out]; exact List.mem_map.2 ⟨y, hy, rfl⟩)
            simp only [polOk, Bool.and_eq_true, rulesOk, few, btw, decide_eq_true_eq, Bool.or_eq_true] at hp
            omega
        have HIM2 := hid (show av = true → (may A 1 x x.src x.dst && may A 2 x x.dst x.src) = true from fun h => by
          rw [HAV.out, Bool.and_eq_true] at h
          rw [hA, Bool.and_eq_true, hy']
          exact ⟨more_may (y' := addRule z.x.d xr.d false false) HDJ.out (fun _ _ => rfl) (fun _ _ _ hl => addRule_lets hl) h.1, more_may (y' := addRule z.x.d xr.d false false) HDJ.out (fun _ _ => rfl) (fun _ _ _ hl => addRule_lets hl) h.2⟩)
        have EA := hid (show A.pods = C.pods by rw [hA])
        have EB := hid (show A.pols = C.pols.set j y' by rw [hA])
        have HRP9 := hid hrp
        have HRQ9 := hid hrq
        clear hF1 hFs hFin hFo hFB hrp hrq hy' hA
        refine (keepAllowed_len A x a (some ⟨gp, 0, none⟩) n n' C.pods.length C.pols.length F (by rw [EA.out]) (by rw [EB.out, List.length_set]) (by rw [EA.out]; exact HRP9.out) (by rw [EB.out]; exact HRQ9.out) (by rw [EA.out]; exact HN.out) (by rw [hrA]) HPX.out).mono ?_
        generalize (may A 1 x x.src x.dst && may A 2 x x.dst x.src) = b2 at HIM2
        rintro e wF ⟨rfl, hbF⟩
        have HFIN := hid (Ext.trans HFB.out hbF)
        clear hbF hrA
        have hcase2 : b2 = true ∨ (b2 = false ∧ av = false) := by
          cases b2
          · refine .inr ⟨rfl, ?_⟩
            cases hv : av
            · rfl
            · exact absurd (HIM2.out hv) (by decide)
          · exact .inl rfl
        rcases hcase2 with rfl | ⟨rfl, hav0⟩
        · go_wp2
          go_ret
          exact ⟨by simp, HFIN.out⟩
        · first
            | (exfalso; have h1 := hav1; rw [hav0] at h1; cases h1; done)
            | (go_wp2
               go_ret
               exact ⟨by simp, HFIN.out⟩)
    · by_cases hoo : z.x.d.outs.length < 2
      · have zo : (z.x.d.outs.length : Int) < 2 := by omega
        by_cases hii : z.x.d.ins.length < 2
        · have zi : (z.x.d.ins.length : Int) < 2 := by omega
          go_upto_region 21 with (at_builtin; go_must (refine wpList_append_own_at _ rfl _ _ 57 rfl z.lo 64 ir0 _ 2 48 Tryz.underlying57 hir irz0 irz1 irz2 rfl (by decide) _ _ _ rfl HOY.out ⟨rg, 0, none⟩ 1 gc (encXRule xr) rfl rfl HXC.out (encXRule_one _) (by unfold maxLen; omega) (by omega) (by have := HBDS.out; have := HSS.out; omega) ?_); intro v7 w7 hown7 hg7 hnil7 hat7; obtain ⟨a7, c7, hv7, hc7, _⟩ := own_slice hown7; subst hv7; have HO7 := hid hown7; have HG7 := hid hg7; have HA7 := hid hat7; have KY7 := hid ((hg7.block wR.heap.size (by have := HSS.out; omega) (fun e => by have := HOB.out _ e.symm; have := HBDS.out; have := HSS.out; omega)).trans KY.out); have f4 := blk_cell KY7.out; have ff := blk_frozen KY7.out; clear hown7 hg7 hnil7 hat7 hc7 c3 c4 c5 cf)
          obtain ⟨a9, c9, e9, _, hof⟩ := gr_more (i := 4) (u := .slice a7 (z.x.d.outs.length + 1) c7) (yb := wR.heap.size) (H := (fun b => (decide (z.mid ≤ b) && decide (b < z.hi)) || decide (b = gp) || decide (b = wR.heap.size))) (v := .slice oa z.x.d.outs.length oc) HO1.out (by rw [← HOL.out, ← HOV.out]; exact HO4.out) (fun b h1 h2 => HBSY.out.block b (by have := HGZ.out z (List.mem_of_getElem? HZJ.out); have := HBDS.out; have := HSS.out; omega)) (fun b h1 h2 => HBYB.out.block b h2) HBYB.out.size (by have := HGZ.out z (List.mem_of_getElem? HZJ.out); have := HBDS.out; have := HSS.out; omega) (by have := HGZ.out z (List.mem_of_getElem? HZJ.out); have := HBDS.out; have := HSS.out; omega) (by rw [HOL.out]; exact HOY.out) (fun g hg => (HOB.out g hg).2) HNR.out HG7.out (by rw [HOL.out]; exact HO7.out) HA7.out (by omega) (fun b h1 h2 => by have := HGZ.out z (List.mem_of_getElem? HZJ.out); have := HBDS.out; have := HSS.out; simp; omega) (fun b h1 h2 => by have := HGZ.out z (List.mem_of_getElem? HZJ.out); have := HBDS.out; have := HSS.out; simp; omega) (by have := HGZ.out z (List.mem_of_getElem? HZJ.out); have := HBDS.out; have := HSS.out; simp; omega) (by simp)
          injection e9 with q1 q2 q3
          clear q2 q3
          subst q1
          have HOF := hid (show ∀ F : World, (∀ b, b < (w7.setCell ⟨wR.heap.size, 4, none⟩ (.slice a7 (z.x.d.outs.length + 1) c7)).heap.size → (fun b => (decide (z.mid ≤ b) && decide (b < z.hi)) || decide (b = gp) || decide (b = wR.heap.size)) b = false → F.heap[b]? = (w7.setCell ⟨wR.heap.size, 4, none⟩ (.slice a7 (z.x.d.outs.length + 1) c7)).heap[b]?) → (w7.setCell ⟨wR.heap.size, 4, none⟩ (.slice a7 (z.x.d.outs.length + 1) c7)).heap.size ≤ F.heap.size → rdRules F.heap.size F a7 (z.x.d.outs ++ [xr.d]) from fun F hF hFs => hof F (fun b hb hH => hF b (by rw [World.size_setCell]; exact hb) hH) (by rw [World.size_setCell] at hFs; exact hFs))
          have HSTG1 := hid (Stg.app (yb := wR.heap.size) 4 (.slice a7 (z.x.d.outs.length + 1) c7) HG7.out HOB.out)
          have KYC := hid (show (w7.setCell ⟨wR.heap.size, 4, none⟩ (.slice a7 (z.x.d.outs.length + 1) c7)).heap[wR.heap.size]? = some (.cells #[.int .i64 z.x.d.space, .int .i64 z.x.d.need, .int .i64 z.x.d.ban, .int .i64 3, .slice a7 (z.x.d.outs.length + 1) c7, .slice ia z.x.d.ins.length ic] 59 (0, 0)) from (set_blk KY7.out 4 _).trans rfl)
          generalize w7.setCell ⟨wR.heap.size, 4, none⟩ (.slice a7 (z.x.d.outs.length + 1) c7) = YC at HSTG1 KYC HOF ⊢
          clear f4 ff hof
          have c3 : YC.cell? ⟨wR.heap.size, 3, none⟩ = some (.int .i64 3) := (blk_cell KYC.out 3).trans rfl
          have c5 : YC.cell? ⟨wR.heap.size, 5, none⟩ = some (.slice ia z.x.d.ins.length ic) := (blk_cell KYC.out 5).trans rfl
          have cf := blk_frozen KYC.out
          have HIC := hid (show YC.ownsRow z.mid 64 2 (.slice ia z.x.d.ins.length ic) z.x.d.ins.length (xi.flatMap encXRule) from own_stay HIY.out fun g hg => HSTG1.out.2 g (HIY.out.lt g hg).2 (by have := HIB.out g hg; have := HGZ.out z (List.mem_of_getElem? HZJ.out); have := HBDS.out; have := HSS.out; omega) (by have := HIB.out g hg; omega))
          have hrgb := HSTG1.out.2 rg (by have := HGZ.out z (List.mem_of_getElem? HZJ.out); have := HBDS.out; have := HSS.out; omega) (by have := HGZ.out z (List.mem_of_getElem? HZJ.out); have := HBDS.out; have := HSS.out; omega) (by have := HGZ.out z (List.mem_of_getElem? HZJ.out); have := HBDS.out; have := HSS.out; omega)
          have HXCC := hid (xr_cells (xr := xr) ((World.cell?_of_block (a := ⟨rg, 0, none⟩) hrgb).trans (cell_to HW0.out HBYB.out)) ((World.cell?_of_block (a := ⟨rg, 1, none⟩) hrgb).trans (cell_to HW1.out HBYB.out)))
          clear hrgb
          have HSZC := hid HSTG1.out.1.2.2.2
          go_upto_region 23 with (at_builtin; go_must (refine wpList_append_own_at _ rfl _ _ 57 rfl z.mid 64 ir0 _ 2 48 Tryz.underlying57 hir irz0 irz1 irz2 rfl (by decide) _ _ _ rfl HIC.out ⟨rg, 0, none⟩ 1 gc (encXRule xr) rfl rfl HXCC.out (encXRule_one _) (by unfold maxLen; omega) (by omega) (by have := HBDS.out; have := HSS.out; have := HSZC.out; omega) ?_); intro v8 w8 hown8 hg8 hnil8 hat8; obtain ⟨a8, c8, hv8, hc8, _⟩ := own_slice hown8; subst hv8; have HO8 := hid hown8; have HG8 := hid hg8; have HA8 := hid hat8; have KY8 := hid ((hg8.block wR.heap.size (by have := HSS.out; have := HSZC.out; omega) (fun e => by have := HIB.out _ e.symm; have := HBDS.out; have := HSS.out; omega)).trans KYC.out); have f5 := blk_cell KY8.out; have ff := blk_frozen KY8.out; clear hown8 hg8 hnil8 hat8 hc8 c3 c5 cf)
          obtain ⟨a9, c9, e9, _, hof⟩ := gr_more (i := 5) (u := .slice a8 (z.x.d.ins.length + 1) c8) (yb := wR.heap.size) (H := (fun b => decide (b = gp) || decide (b = wR.heap.size))) (v := .slice ia z.x.d.ins.length ic) HI1.out (by rw [← HIL.out, ← HIV.out]; exact HI4.out) (fun b h1 h2 => (HSTG1.out.2 b (by have := HGZ.out z (List.mem_of_getElem? HZJ.out); have := HBDS.out; have := HSS.out; omega) (by have := HGZ.out z (List.mem_of_getElem? HZJ.out); have := HBDS.out; have := HSS.out; omega) (by omega)).trans (HBSY.out.block b (by have := HGZ.out z (List.mem_of_getElem? HZJ.out); have := HBDS.out; have := HSS.out; omega))) (fun b h1 h2 => (HSTG1.out.2 b (by have := HGZ.out z (List.mem_of_getElem? HZJ.out); have := HBDS.out; have := HSS.out; omega) (by omega) (by have := HGZ.out z (List.mem_of_getElem? HZJ.out); have := HBDS.out; have := HSS.out; omega)).trans (HBYB.out.block b h2)) (Nat.le_trans HBYB.out.size HSZC.out) (by have := HGZ.out z (List.mem_of_getElem? HZJ.out); have := HBDS.out; have := HSS.out; omega) (by have := HGZ.out z (List.mem_of_getElem? HZJ.out); have := HBDS.out; have := HSS.out; omega) (by rw [HIL.out]; exact HIC.out) (fun g hg => (HIB.out g hg).2) HNR.out HG8.out (by rw [HIL.out]; exact HO8.out) HA8.out (by omega) (fun b h1 h2 => by have := HGZ.out z (List.mem_of_getElem? HZJ.out); have := HBDS.out; have := HSS.out; simp; omega) (fun b h1 h2 => by have := HGZ.out z (List.mem_of_getElem? HZJ.out); have := HBDS.out; have := HSS.out; simp; omega) (by have := HGZ.out z (List.mem_of_getElem? HZJ.out); have := HBDS.out; have := HSS.out; have := HSZC.out; simp; omega) (by simp)
          injection e9 with q1 q2 q3
          clear q2 q3
          subst q1
          have HIF := hid (show ∀ F : World, (∀ b, b < (w8.setCell ⟨wR.heap.size, 5, none⟩ (.slice a8 (z.x.d.ins.length + 1) c8)).heap.size → (fun b => decide (b = gp) || decide (b = wR.heap.size)) b = false → F.heap[b]? = (w8.setCell ⟨wR.heap.size, 5, none⟩ (.slice a8 (z.x.d.ins.length + 1) c8)).heap[b]?) → (w8.setCell ⟨wR.heap.size, 5, none⟩ (.slice a8 (z.x.d.ins.length + 1) c8)).heap.size ≤ F.heap.size → rdRules F.heap.size F a8 (z.x.d.ins ++ [xr.d]) from fun F hF hFs => hof F (fun b hb hH => hF b (by rw [World.size_setCell]; exact hb) hH) (by rw [World.size_setCell] at hFs; exact hFs))
          have HSTG2 := hid (Stg.app (yb := wR.heap.size) 5 (.slice a8 (z.x.d.ins.length + 1) c8) HG8.out HIB.out)
          have KYD := hid (show (w8.setCell ⟨wR.heap.size, 5, none⟩ (.slice a8 (z.x.d.ins.length + 1) c8)).heap[wR.heap.size]? = some (.cells #[.int .i64 z.x.d.space, .int .i64 z.x.d.need, .int .i64 z.x.d.ban, .int .i64 3, .slice a7 (z.x.d.outs.length + 1) c7, .slice a8 (z.x.d.ins.length + 1) c8] 59 (0, 0)) from (set_blk KY8.out 5 _).trans rfl)
          generalize w8.setCell ⟨wR.heap.size, 5, none⟩ (.slice a8 (z.x.d.ins.length + 1) c8) = YD at HSTG2 KYD HIF ⊢
          clear f5 ff hof
          have HSZD := hid (Nat.le_trans HSZC.out HSTG2.out.1.2.2.2)
          have HFD := hid (show ∀ b, b < YB.heap.size → b ≠ wR.heap.size → ¬ (z.lo ≤ b ∧ b < z.hi) → YD.heap[b]? = YB.heap[b]? from fun b h1 h2 h3 => (HSTG2.out.2 b (Nat.lt_of_lt_of_le h1 HSZC.out) h2 (by have := HBDS.out; omega)).trans (HSTG1.out.2 b h1 h2 (by have := HBDS.out; omega)))
          have HFS := hid (show ∀ b, b < wS.heap.size → ¬ (z.lo ≤ b ∧ b < z.hi) → YD.heap[b]? = wS.heap[b]? from fun b h1 h2 => (HFD.out b (by have := HGZ.out z (List.mem_of_getElem? HZJ.out); have := HBDS.out; have := HSS.out; omega) (by have := HGZ.out z (List.mem_of_getElem? HZJ.out); have := HBDS.out; have := HSS.out; omega) h2).trans (HBSY.out.block b h1))
          have HGD := hid ((HFS.out gp (by have := HGZ.out z (List.mem_of_getElem? HZJ.out); have := HBDS.out; have := HSS.out; omega) (by have := HGZ.out z (List.mem_of_getElem? HZJ.out); have := HBDS.out; have := HSS.out; omega)).trans HGB.out)
          have hgd := HFS.out gp (by have := HGZ.out z (List.mem_of_getElem? HZJ.out); have := HBDS.out; have := HSS.out; omega) (by have := HGZ.out z (List.mem_of_getElem? HZJ.out); have := HBDS.out; have := HSS.out; omega)
          have g0 := (World.cell?_of_block (a := ⟨gp, j * 6, none⟩) hgd).trans HE.out.1
          have g1 := (World.cell?_of_block (a := ⟨gp, j * 6 + 1, none⟩) hgd).trans HE.out.2.1
          have g2 := (World.cell?_of_block (a := ⟨gp, j * 6 + 2, none⟩) hgd).trans HE.out.2.2.1
          have g3 := (World.cell?_of_block (a := ⟨gp, j * 6 + 3, none⟩) hgd).trans HE.out.2.2.2.1
          have g4 := (World.cell?_of_block (a := ⟨gp, j * 6 + 4, none⟩) hgd).trans HE.out.2.2.2.2.1
          have g5 := (World.cell?_of_block (a := ⟨gp, j * 6 + 5, none⟩) hgd).trans HE.out.2.2.2.2.2
          have gfz := blk_frozen HGD.out
          have KCD := (HFS.out wB.heap.size (by have := HGZ.out z (List.mem_of_getElem? HZJ.out); have := HBDS.out; have := HSS.out; omega) (by have := HGZ.out z (List.mem_of_getElem? HZJ.out); have := HBDS.out; have := HSS.out; omega)).trans KCS.out
          have KPD := (HFS.out wP.heap.size (by have := HGZ.out z (List.mem_of_getElem? HZJ.out); have := HBDS.out; have := HSS.out; omega) (by have := HGZ.out z (List.mem_of_getElem? HZJ.out); have := HBDS.out; have := HSS.out; omega)).trans KPS.out
          have i0 : YD.cell? ⟨wB.heap.size, 0, none⟩ = some (.slice a C.pods.length n) := (blk_cell KCD 0).trans rfl
          have i1 : YD.cell? ⟨wB.heap.size, 1, none⟩ = some (.slice (some ⟨gp, 0, none⟩) C.pols.length n') := (blk_cell KCD 1).trans rfl
          have i2 : YD.cell? ⟨wP.heap.size, 0, none⟩ = some (.int .i64 x.src) := (blk_cell KPD 0).trans rfl
          have i3 : YD.cell? ⟨wP.heap.size, 1, none⟩ = some (.int .i64 x.dst) := (blk_cell KPD 1).trans rfl
          have i4 : YD.cell? ⟨wP.heap.size, 2, none⟩ = some (.int .i64 x.proto) := (blk_cell KPD 2).trans rfl
          have i5 : YD.cell? ⟨wP.heap.size, 3, none⟩ = some (.int .i64 x.port) := (blk_cell KPD 3).trans rfl
          have d0 : YD.cell? ⟨wR.heap.size, 0, none⟩ = some (.int .i64 z.x.d.space) := (blk_cell KYD.out 0).trans rfl
          have d1 : YD.cell? ⟨wR.heap.size, 1, none⟩ = some (.int .i64 z.x.d.need) := (blk_cell KYD.out 1).trans rfl
          have d2 : YD.cell? ⟨wR.heap.size, 2, none⟩ = some (.int .i64 z.x.d.ban) := (blk_cell KYD.out 2).trans rfl
          have d3 : YD.cell? ⟨wR.heap.size, 3, none⟩ = some (.int .i64 3) := (blk_cell KYD.out 3).trans rfl
          have d4 : YD.cell? ⟨wR.heap.size, 4, none⟩ = some (.slice a7 (z.x.d.outs.length + 1) c7) := (blk_cell KYD.out 4).trans rfl
          have d5 : YD.cell? ⟨wR.heap.size, 5, none⟩ = some (.slice a8 (z.x.d.ins.length + 1) c8) := (blk_cell KYD.out 5).trans rfl
          have n1 : ¬ gp = wB.heap.size := by have := HGZ.out z (List.mem_of_getElem? HZJ.out); have := HBDS.out; have := HSS.out; omega
          have n2 : ¬ wB.heap.size = gp := by have := HGZ.out z (List.mem_of_getElem? HZJ.out); have := HBDS.out; have := HSS.out; omega
          have n3 : ¬ gp = wP.heap.size := by have := HGZ.out z (List.mem_of_getElem? HZJ.out); have := HBDS.out; have := HSS.out; omega
          have n4 : ¬ wP.heap.size = gp := by have := HGZ.out z (List.mem_of_getElem? HZJ.out); have := HBDS.out; have := HSS.out; omega
          clear hgd KCD KPD
          go_wp2_with fail
          have hF1 := put6_far YD gp (j * 6) (.int .i64 z.x.d.space) (.int .i64 z.x.d.need) (.int .i64 z.x.d.ban) (.int .i64 3) (.slice a7 (z.x.d.outs.length + 1) c7) (.slice a8 (z.x.d.ins.length + 1) c8)
          have hFs := put6_size YD gp (j * 6) (.int .i64 z.x.d.space) (.int .i64 z.x.d.need) (.int .i64 z.x.d.ban) (.int .i64 3) (.slice a7 (z.x.d.outs.length + 1) c7) (.slice a8 (z.x.d.ins.length + 1) c8)
          have hFin := put6_in (w := YD) (g := gp) (o := j * 6) (a0 := .int .i64 z.x.d.space) (a1 := .int .i64 z.x.d.need) (a2 := .int .i64 z.x.d.ban) (a3 := .int .i64 3) (a4 := .slice a7 (z.x.d.outs.length + 1) c7) (a5 := .slice a8 (z.x.d.ins.length + 1) c8) HGD.out HCS6.out
          have hFo : ∀ i, (i < j * 6 ∨ j * 6 + 6 ≤ i) → (put6 YD gp (j * 6) (.int .i64 z.x.d.space) (.int .i64 z.x.d.need) (.int .i64 z.x.d.ban) (.int .i64 3) (.slice a7 (z.x.d.outs.length + 1) c7) (.slice a8 (z.x.d.ins.length + 1) c8)).cell? ⟨gp, i, none⟩ = YD.cell? ⟨gp, i, none⟩ := fun i hi => put6_out HGD.out hi
          have hFB : Below w.heap.size w (put6 YD gp (j * 6) (.int .i64 z.x.d.space) (.int .i64 z.x.d.need) (.int .i64 z.x.d.ban) (.int .i64 3) (.slice a7 (z.x.d.outs.length + 1) c7) (.slice a8 (z.x.d.ins.length + 1) c8)) := put6_below (((Ext.trans HBwS.out HBSY.out).trans (HSTG1.out.below (by have := HGZ.out z (List.mem_of_getElem? HZJ.out); have := HBDS.out; have := HSS.out; omega) (by have := HGZ.out z (List.mem_of_getElem? HZJ.out); have := HBDS.out; have := HSS.out; omega) (by have := HGZ.out z (List.mem_of_getElem? HZJ.out); have := HBDS.out; have := HSS.out; omega))).trans (HSTG2.out.below (by have := HGZ.out z (List.mem_of_getElem? HZJ.out); have := HBDS.out; have := HSS.out; omega) (by have := HGZ.out z (List.mem_of_getElem? HZJ.out); have := HBDS.out; have := HSS.out; omega) (by have := HSZC.out; have := HGZ.out z (List.mem_of_getElem? HZJ.out); have := HBDS.out; have := HSS.out; omega))) (by have := HGZ.out z (List.mem_of_getElem? HZJ.out); have := HBDS.out; have := HSS.out; omega)
          show Calls _ _ _ (put6 YD gp (j * 6) (.int .i64 z.x.d.space) (.int .i64 z.x.d.need) (.int .i64 z.x.d.ban) (.int .i64 3) (.slice a7 (z.x.d.outs.length + 1) c7) (.slice a8 (z.x.d.ins.length + 1) c8)) _
          generalize put6 YD gp (j * 6) (.int .i64 z.x.d.space) (.int .i64 z.x.d.need) (.int .i64 z.x.d.ban) (.int .i64 3) (.slice a7 (z.x.d.outs.length + 1) c7) (.slice a8 (z.x.d.ins.length + 1) c8) = F at hF1 hFs hFin hFo hFB ⊢
          clear g0 g1 g2 g3 g4 g5 gfz i0 i1 i2 i3 i4 i5 d0 d1 d2 d3 d4 d5 n1 n2 n3 n4
          have HFB := hid hFB
          obtain ⟨y', hy'⟩ : ∃ y', y' = addRule z.x.d xr.d true true := ⟨_, rfl⟩
          have HPY := hid (show polOk y' = true by rw [hy']; exact addRule_ok HPOK.out (by rw [HXD.out]; exact mkRule_ok r) (fun _ => by have := HWE.out; omega) (fun _ => by have := HWE.out; omega))
          have hrA := set_right (i := j) HR.out HPY.out
          obtain ⟨A, hA⟩ : ∃ A : DClu, A = ⟨C.pods, C.pols.set j y'⟩ := ⟨_, rfl⟩
          rw [← hA] at hrA
          have hrp : rdPods F.heap.size F a C.pods := by
            have hup := HUP.out
            rw [HCP.out] at hup
            exact gr_pods hup HVM.out HL4.out.1 fun b h1 h2 => (hF1 b (by have := HGZ.out z (List.mem_of_getElem? HZJ.out); have := HBDS.out; have := HSS.out; omega)).trans (HFS.out b h1 (by have := HGZ.out z (List.mem_of_getElem? HZJ.out); have := HBDS.out; have := HSS.out; omega))
          have hrq : rdPols F.heap.size F (some ⟨gp, 0, none⟩) (C.pols.set j y') := by
            rw [← HCY.out]
            refine gr_pols (wS := wS) (m := m) HCELL.out (by rw [hFs]; have := HSZD.out; have := HGZ.out z (List.mem_of_getElem? HZJ.out); have := HBDS.out; have := HSS.out; omega) HZX.out HZP.out (fun q hq => ⟨(HZZ.out q hq).1, by have := (HZZ.out q hq).2.1; have := HGZ.out z (List.mem_of_getElem? HZJ.out); have := HBDS.out; have := HSS.out; omega, (HZZ.out q hq).2.2.1, HGZ.out q hq⟩) HZJ.out (by rw [hFs]; have := HSZD.out; have := HGZ.out z (List.mem_of_getElem? HZJ.out); have := HBDS.out; have := HSS.out; omega) (fun b h1 h2 h3 => (hF1 b h3).trans (HFS.out b h1 h2)) (fun i t u hne ht hu => (hFo _ (by omega)).trans ((World.cell?_of_block (a := ⟨gp, i * 6 + t, none⟩) (HFS.out gp (by have := HGZ.out z (List.mem_of_getElem? HZJ.out); have := HBDS.out; have := HSS.out; omega) (by have := HGZ.out z (List.mem_of_getElem? HZJ.out); have := HBDS.out; have := HSS.out; omega))).trans hu)) ?_ (by rw [HYL.out]; omega) (fun y hy => ?_)
            · rw [hy']
              refine ⟨hFin.1, hFin.2.1, hFin.2.2.1, by have e := hFin.2.2.2.1; rw [HWE.out] at e; exact e, ⟨a7, c7, ?_, HOF.out F (fun b h1 h2 => ?_) (by rw [hFs]; exact HSTG2.out.1.2.2.2)⟩, a8, c8, ?_, HIF.out F (fun b h1 h2 => ?_) (by rw [hFs]; exact Nat.le_refl _)⟩
              · have e := hFin.2.2.2.2.1
                first | exact e | (rw [show (addRule z.x.d xr.d true true).outs.length = z.x.d.outs.length + 1 by simp [addRule]]; exact e)
              · simp only [Bool.or_eq_false_iff, Bool.and_eq_false_iff, decide_eq_false_iff_not] at h2
                exact (hF1 b (by omega)).trans (HSTG2.out.2 b h1 (by omega) (by omega))
              · have e := hFin.2.2.2.2.2
                first | exact e | (rw [show (addRule z.x.d xr.d true true).ins.length = z.x.d.ins.length + 1 by simp [addRule]]; exact e)
              · simp only [Bool.or_eq_false_iff, decide_eq_false_iff_not] at h2
                exact hF1 b h2.1
            · have hp := (right_zero HR.out).2 y.d (by rw [← HCY.out]; exact List.mem_map.2 ⟨y, hy, rfl⟩)
              simp only [polOk, Bool.and_eq_true, rulesOk, few, btw, decide_eq_true_eq, Bool.or_eq_true] at hp
              omega
          have HIM2 := hid (show av = true → (may A 1 x x.src x.dst && may A 2 x x.dst x.src) = true from fun h => by
            rw [HAV.out, Bool.and_eq_true] at h
            rw [hA, Bool.and_eq_true, hy']
            exact ⟨more_may (y' := addRule z.x.d xr.d true true) HDJ.out (fun _ _ => rfl) (fun _ _ _ hl => addRule_lets hl) h.1, more_may (y' := addRule z.x.d xr.d true true) HDJ.out (fun _ _ => rfl) (fun _ _ _ hl => addRule_lets hl) h.2⟩)
          have EA := hid (show A.pods = C.pods by rw [hA])
          have EB := hid (show A.pols = C.pols.set j y' by rw [hA])
          have HRP9 := hid hrp
          have HRQ9 := hid hrq
          clear hF1 hFs hFin hFo hFB hrp hrq hy' hA
          refine (keepAllowed_len A x a (some ⟨gp, 0, none⟩) n n' C.pods.length C.pols.length F (by rw [EA.out]) (by rw [EB.out, List.length_set]) (by rw [EA.out]; exact HRP9.out) (by rw [EB.out]; exact HRQ9.out) (by rw [EA.out]; exact HN.out) (by rw [hrA]) HPX.out).mono ?_
          generalize (may A 1 x x.src x.dst && may A 2 x x.dst x.src) = b2 at HIM2
          rintro e wF ⟨rfl, hbF⟩
          have HFIN := hid (Ext.trans HFB.out hbF)
          clear hbF hrA
          have hcase2 : b2 = true ∨ (b2 = false ∧ av = false) := by
            cases b2
            · refine .inr ⟨rfl, ?_⟩
              cases hv : av
              · rfl
              · exact absurd (HIM2.out hv) (by decide)
            · exact .inl rfl
          rcases hcase2 with rfl | ⟨rfl, hav0⟩
          · go_wp2
            go_ret
            exact ⟨by simp, HFIN.out⟩
          · first
              | (exfalso; have h1 := hav1; rw [hav0] at h1; cases h1; done)
              | (go_wp2
                 go_ret
                 exact ⟨by simp, HFIN.out⟩)
        · have zi : ¬ (z.x.d.ins.length : Int) < 2 := by omega
          go_upto_region 21 with (at_builtin; go_must (refine wpList_append_own_at _ rfl _ _ 57 rfl z.lo 64 ir0 _ 2 48 Tryz.underlying57 hir irz0 irz1 irz2 rfl (by decide) _ _ _ rfl HOY.out ⟨rg, 0, none⟩ 1 gc (encXRule xr) rfl rfl HXC.out (encXRule_one _) (by unfold maxLen; omega) (by omega) (by have := HBDS.out; have := HSS.out; omega) ?_); intro v7 w7 hown7 hg7 hnil7 hat7; obtain ⟨a7, c7, hv7, hc7, _⟩ := own_slice hown7; subst hv7; have HO7 := hid hown7; have HG7 := hid hg7; have HA7 := hid hat7; have KY7 := hid ((hg7.block wR.heap.size (by have := HSS.out; omega) (fun e => by have := HOB.out _ e.symm; have := HBDS.out; have := HSS.out; omega)).trans KY.out); have f4 := blk_cell KY7.out; have ff := blk_frozen KY7.out; clear hown7 hg7 hnil7 hat7 hc7 c3 c4 c5 cf)
          obtain ⟨a9, c9, e9, _, hof⟩ := gr_more (i := 4) (u := .slice a7 (z.x.d.outs.length + 1) c7) (yb := wR.heap.size) (H := (fun b => (decide (z.mid ≤ b) && decide (b < z.hi)) || decide (b = gp) || decide (b = wR.heap.size))) (v := .slice oa z.x.d.outs.length oc) HO1.out (by rw [← HOL.out, ← HOV.out]; exact HO4.out) (fun b h1 h2 => HBSY.out.block b (by have := HGZ.out z (List.mem_of_getElem? HZJ.out); have := HBDS.out; have := HSS.out; omega)) (fun b h1 h2 => HBYB.out.block b h2) HBYB.out.size (by have := HGZ.out z (List.mem_of_getElem? HZJ.out); have := HBDS.out; have := HSS.out; omega) (by have := HGZ.out z (List.mem_of_getElem? HZJ.out); have := HBDS.out; have := HSS.out; omega) (by rw [HOL.out]; exact HOY.out) (fun g hg => (HOB.out g hg).2) HNR.out HG7.out (by rw [HOL.out]; exact HO7.out) HA7.out (by omega) (fun b h1 h2 => by have := HGZ.out z (List.mem_of_getElem? HZJ.out); have := HBDS.out; have := HSS.out; simp; omega) (fun b h1 h2 => by have := HGZ.out z (List.mem_of_getElem? HZJ.out); have := HBDS.out; have := HSS.out; simp; omega) (by have := HGZ.out z (List.mem_of_getElem? HZJ.out); have := HBDS.out; have := HSS.out; simp; omega) (by simp)
          injection e9 with q1 q2 q3
          clear q2 q3
          subst q1
          have HOF := hid (show ∀ F : World, (∀ b, b < (w7.setCell ⟨wR.heap.size, 4, none⟩ (.slice a7 (z.x.d.outs.length + 1) c7)).heap.size → (fun b => (decide (z.mid ≤ b) && decide (b < z.hi)) || decide (b = gp) || decide (b = wR.heap.size)) b = false → F.heap[b]? = (w7.setCell ⟨wR.heap.size, 4, none⟩ (.slice a7 (z.x.d.outs.length + 1) c7)).heap[b]?) → (w7.setCell ⟨wR.heap.size, 4, none⟩ (.slice a7 (z.x.d.outs.length + 1) c7)).heap.size ≤ F.heap.size → rdRules F.heap.size F a7 (z.x.d.outs ++ [xr.d]) from fun F hF hFs => hof F (fun b hb hH => hF b (by rw [World.size_setCell]; exact hb) hH) (by rw [World.size_setCell] at hFs; exact hFs))
          have HSTG1 := hid (Stg.app (yb := wR.heap.size) 4 (.slice a7 (z.x.d.outs.length + 1) c7) HG7.out HOB.out)
          have KYC := hid (show (w7.setCell ⟨wR.heap.size, 4, none⟩ (.slice a7 (z.x.d.outs.length + 1) c7)).heap[wR.heap.size]? = some (.cells #[.int .i64 z.x.d.space, .int .i64 z.x.d.need, .int .i64 z.x.d.ban, .int .i64 3, .slice a7 (z.x.d.outs.length + 1) c7, .slice ia z.x.d.ins.length ic] 59 (0, 0)) from (set_blk KY7.out 4 _).trans rfl)
          generalize w7.setCell ⟨wR.heap.size, 4, none⟩ (.slice a7 (z.x.d.outs.length + 1) c7) = YC at HSTG1 KYC HOF ⊢
          clear f4 ff hof
          have c3 : YC.cell? ⟨wR.heap.size, 3, none⟩ = some (.int .i64 3) := (blk_cell KYC.out 3).trans rfl
          have c5 : YC.cell? ⟨wR.heap.size, 5, none⟩ = some (.slice ia z.x.d.ins.length ic) := (blk_cell KYC.out 5).trans rfl
          have cf := blk_frozen KYC.out
          go_upto_region 23 with fail
          obtain ⟨YD, hYD⟩ : ∃ YD, YD = YC := ⟨_, rfl⟩
          have HSZC := hid HSTG1.out.1.2.2.2
          have HSTG2 := hid (show Stg wR.heap.size z.mid z.hi YC YD by rw [hYD]; exact Stg.refl _ _ _ _)
          have KYD := hid (show YD.heap[wR.heap.size]? = some (.cells #[.int .i64 z.x.d.space, .int .i64 z.x.d.need, .int .i64 z.x.d.ban, .int .i64 3, .slice a7 (z.x.d.outs.length + 1) c7, .slice ia z.x.d.ins.length ic] 59 (0, 0)) by rw [hYD]; exact KYC.out)
          have HIF := hid (show ∀ F : World, (∀ b, b < YD.heap.size → (fun b => decide (b = gp) || decide (b = wR.heap.size)) b = false → F.heap[b]? = YD.heap[b]?) → YD.heap.size ≤ F.heap.size → rdRules F.heap.size F ia z.x.d.ins from fun F hF hFs => gr_same HRI.out (by rw [HIV.out, HIL.out]) (fun b h1 h2 => by rw [hYD]; exact (HSTG1.out.2 b (by have := HGZ.out z (List.mem_of_getElem? HZJ.out); have := HBDS.out; have := HSS.out; omega) (by have := HGZ.out z (List.mem_of_getElem? HZJ.out); have := HBDS.out; have := HSS.out; omega) (by omega)).trans (HBSY.out.block b (by have := HGZ.out z (List.mem_of_getElem? HZJ.out); have := HBDS.out; have := HSS.out; omega))) (by rw [hYD]; have := HSZC.out; have := HGZ.out z (List.mem_of_getElem? HZJ.out); have := HBDS.out; have := HSS.out; omega) (by omega) F (fun b h1 h2 => hF b (by rw [hYD]; have := HSZC.out; have := HGZ.out z (List.mem_of_getElem? HZJ.out); have := HBDS.out; have := HSS.out; omega) (by have := HGZ.out z (List.mem_of_getElem? HZJ.out); have := HBDS.out; have := HSS.out; simp; omega)) hFs)
          rw [← hYD]
          clear hYD c3 c5 cf
          have HSZD := hid (Nat.le_trans HSZC.out HSTG2.out.1.2.2.2)
          have HFD := hid (show ∀ b, b < YB.heap.size → b ≠ wR.heap.size → ¬ (z.lo ≤ b ∧ b < z.hi) → YD.heap[b]? = YB.heap[b]? from fun b h1 h2 h3 => (HSTG2.out.2 b (Nat.lt_of_lt_of_le h1 HSZC.out) h2 (by have := HBDS.out; omega)).trans (HSTG1.out.2 b h1 h2 (by have := HBDS.out; omega)))
          have HFS := hid (show ∀ b, b < wS.heap.size → ¬ (z.lo ≤ b ∧ b < z.hi) → YD.heap[b]? = wS.heap[b]? from fun b h1 h2 => (HFD.out b (by have := HGZ.out z (List.mem_of_getElem? HZJ.out); have := HBDS.out; have := HSS.out; omega) (by have := HGZ.out z (List.mem_of_getElem? HZJ.out); have := HBDS.out; have := HSS.out; omega) h2).trans (HBSY.out.block b h1))
          have HGD := hid ((HFS.out gp (by have := HGZ.out z (List.mem_of_getElem? HZJ.out); have := HBDS.out; have := HSS.out; omega) (by have := HGZ.out z (List.mem_of_getElem? HZJ.out); have := HBDS.out; have := HSS.out; omega)).trans HGB.out)
          have hgd := HFS.out gp (by have := HGZ.out z (List.mem_of_getElem? HZJ.out); have := HBDS.out; have := HSS.out; omega) (by have := HGZ.out z (List.mem_of_getElem? HZJ.out); have := HBDS.out; have := HSS.out; omega)
          have g0 := (World.cell?_of_block (a := ⟨gp, j * 6, none⟩) hgd).trans HE.out.1
          have g1 := (World.cell?_of_block (a := ⟨gp, j * 6 + 1, none⟩) hgd).trans HE.out.2.1
          have g2 := (World.cell?_of_block (a := ⟨gp, j * 6 + 2, none⟩) hgd).trans HE.out.2.2.1
          have g3 := (World.cell?_of_block (a := ⟨gp, j * 6 + 3, none⟩) hgd).trans HE.out.2.2.2.1
          have g4 := (World.cell?_of_block (a := ⟨gp, j * 6 + 4, none⟩) hgd).trans HE.out.2.2.2.2.1
          have g5 := (World.cell?_of_block (a := ⟨gp, j * 6 + 5, none⟩) hgd).trans HE.out.2.2.2.2.2
          have gfz := blk_frozen HGD.out
          have KCD := (HFS.out wB.heap.size (by have := HGZ.out z (List.mem_of_getElem? HZJ.out); have := HBDS.out; have := HSS.out; omega) (by have := HGZ.out z (List.mem_of_getElem? HZJ.out); have := HBDS.out; have := HSS.out; omega)).trans KCS.out
          have KPD := (HFS.out wP.heap.size (by have := HGZ.out z (List.mem_of_getElem? HZJ.out); have := HBDS.out; have := HSS.out; omega) (by have := HGZ.out z (List.mem_of_getElem? HZJ.out); have := HBDS.out; have := HSS.out; omega)).trans KPS.out
          have i0 : YD.cell? ⟨wB.heap.size, 0, none⟩ = some (.slice a C.pods.length n) := (blk_cell KCD 0).trans rfl
          have i1 : YD.cell? ⟨wB.heap.size, 1, none⟩ = some (.slice (some ⟨gp, 0, none⟩) C.pols.length n') := (blk_cell KCD 1).trans rfl
          have i2 : YD.cell? ⟨wP.heap.size, 0, none⟩ = some (.int .i64 x.src) := (blk_cell KPD 0).trans rfl
          have i3 : YD.cell? ⟨wP.heap.size, 1, none⟩ = some (.int .i64 x.dst) := (blk_cell KPD 1).trans rfl
          have i4 : YD.cell? ⟨wP.heap.size, 2, none⟩ = some (.int .i64 x.proto) := (blk_cell KPD 2).trans rfl
          have i5 : YD.cell? ⟨wP.heap.size, 3, none⟩ = some (.int .i64 x.port) := (blk_cell KPD 3).trans rfl
          have d0 : YD.cell? ⟨wR.heap.size, 0, none⟩ = some (.int .i64 z.x.d.space) := (blk_cell KYD.out 0).trans rfl
          have d1 : YD.cell? ⟨wR.heap.size, 1, none⟩ = some (.int .i64 z.x.d.need) := (blk_cell KYD.out 1).trans rfl
          have d2 : YD.cell? ⟨wR.heap.size, 2, none⟩ = some (.int .i64 z.x.d.ban) := (blk_cell KYD.out 2).trans rfl
          have d3 : YD.cell? ⟨wR.heap.size, 3, none⟩ = some (.int .i64 3) := (blk_cell KYD.out 3).trans rfl
          have d4 : YD.cell? ⟨wR.heap.size, 4, none⟩ = some (.slice a7 (z.x.d.outs.length + 1) c7) := (blk_cell KYD.out 4).trans rfl
          have d5 : YD.cell? ⟨wR.heap.size, 5, none⟩ = some (.slice ia z.x.d.ins.length ic) := (blk_cell KYD.out 5).trans rfl
          have n1 : ¬ gp = wB.heap.size := by have := HGZ.out z (List.mem_of_getElem? HZJ.out); have := HBDS.out; have := HSS.out; omega
          have n2 : ¬ wB.heap.size = gp := by have := HGZ.out z (List.mem_of_getElem? HZJ.out); have := HBDS.out; have := HSS.out; omega
          have n3 : ¬ gp = wP.heap.size := by have := HGZ.out z (List.mem_of_getElem? HZJ.out); have := HBDS.out; have := HSS.out; omega
          have n4 : ¬ wP.heap.size = gp := by have := HGZ.out z (List.mem_of_getElem? HZJ.out); have := HBDS.out; have := HSS.out; omega
          clear hgd KCD KPD
          go_wp2_with fail
          have hF1 := put6_far YD gp (j * 6) (.int .i64 z.x.d.space) (.int .i64 z.x.d.need) (.int .i64 z.x.d.ban) (.int .i64 3) (.slice a7 (z.x.d.outs.length + 1) c7) (.slice ia z.x.d.ins.length ic)
          have hFs := put6_size YD gp (j * 6) (.int .i64 z.x.d.space) (.int .i64 z.x.d.need) (.int .i64 z.x.d.ban) (.int .i64 3) (.slice a7 (z.x.d.outs.length + 1) c7) (.slice ia z.x.d.ins.length ic)
          have hFin := put6_in (w := YD) (g := gp) (o := j * 6) (a0 := .int .i64 z.x.d.space) (a1 := .int .i64 z.x.d.need) (a2 := .int .i64 z.x.d.ban) (a3 := .int .i64 3) (a4 := .slice a7 (z.x.d.outs.length + 1) c7) (a5 := .slice ia z.x.d.ins.length ic) HGD.out HCS6.out
          have hFo : ∀ i, (i < j * 6 ∨ j * 6 + 6 ≤ i) → (put6 YD gp (j * 6) (.int .i64 z.x.d.space) (.int .i64 z.x.d.need) (.int .i64 z.x.d.ban) (.int .i64 3) (.slice a7 (z.x.d.outs.length + 1) c7) (.slice ia z.x.d.ins.length ic)).cell? ⟨gp, i, none⟩ = YD.cell? ⟨gp, i, none⟩ := fun i hi => put6_out HGD.out hi
          have hFB : Below w.heap.size w (put6 YD gp (j * 6) (.int .i64 z.x.d.space) (.int .i64 z.x.d.need) (.int .i64 z.x.d.ban) (.int .i64 3) (.slice a7 (z.x.d.outs.length + 1) c7) (.slice ia z.x.d.ins.length ic)) := put6_below (((Ext.trans HBwS.out HBSY.out).trans (HSTG1.out.below (by have := HGZ.out z (List.mem_of_getElem? HZJ.out); have := HBDS.out; have := HSS.out; omega) (by have := HGZ.out z (List.mem_of_getElem? HZJ.out); have := HBDS.out; have := HSS.out; omega) (by have := HGZ.out z (List.mem_of_getElem? HZJ.out); have := HBDS.out; have := HSS.out; omega))).trans (HSTG2.out.below (by have := HGZ.out z (List.mem_of_getElem? HZJ.out); have := HBDS.out; have := HSS.out; omega) (by have := HGZ.out z (List.mem_of_getElem? HZJ.out); have := HBDS.out; have := HSS.out; omega) (by have := HSZC.out; have := HGZ.out z (List.mem_of_getElem? HZJ.out); have := HBDS.out; have := HSS.out; omega))) (by have := HGZ.out z (List.mem_of_getElem? HZJ.out); have := HBDS.out; have := HSS.out; omega)
          show Calls _ _ _ (put6 YD gp (j * 6) (.int .i64 z.x.d.space) (.int .i64 z.x.d.need) (.int .i64 z.x.d.ban) (.int .i64 3) (.slice a7 (z.x.d.outs.length + 1) c7) (.slice ia z.x.d.ins.length ic)) _
          generalize put6 YD gp (j * 6) (.int .i64 z.x.d.space) (.int .i64 z.x.d.need) (.int .i64 z.x.d.ban) (.int .i64 3) (.slice a7 (z.x.d.outs.length + 1) c7) (.slice ia z.x.d.ins.length ic) = F at hF1 hFs hFin hFo hFB ⊢
          clear g0 g1 g2 g3 g4 g5 gfz i0 i1 i2 i3 i4 i5 d0 d1 d2 d3 d4 d5 n1 n2 n3 n4
          have HFB := hid hFB
          obtain ⟨y', hy'⟩ : ∃ y', y' = addRule z.x.d xr.d true false := ⟨_, rfl⟩
          have HPY := hid (show polOk y' = true by rw [hy']; exact addRule_ok HPOK.out (by rw [HXD.out]; exact mkRule_ok r) (fun _ => by have := HWE.out; omega) (fun h => by cases h))
          have hrA := set_right (i := j) HR.out HPY.out
          obtain ⟨A, hA⟩ : ∃ A : DClu, A = ⟨C.pods, C.pols.set j y'⟩ := ⟨_, rfl⟩
          rw [← hA] at hrA
          have hrp : rdPods F.heap.size F a C.pods := by
            have hup := HUP.out
            rw [HCP.out] at hup
            exact gr_pods hup HVM.out HL4.out.1 fun b h1 h2 => (hF1 b (by have := HGZ.out z (List.mem_of_getElem? HZJ.out); have := HBDS.out; have := HSS.out; omega)).trans (HFS.out b h1 (by have := HGZ.out z (List.mem_of_getElem? HZJ.out); have := HBDS.out; have := HSS.out; omega))
          have hrq : rdPols F.heap.size F (some ⟨gp, 0, none⟩) (C.pols.set j y') := by
            rw [← HCY.out]
            refine gr_pols (wS := wS) (m := m) HCELL.out (by rw [hFs]; have := HSZD.out; have := HGZ.out z (List.mem_of_getElem? HZJ.out); have := HBDS.out; have := HSS.out; omega) HZX.out HZP.out (fun q hq => ⟨(HZZ.out q hq).1, by have := (HZZ.out q hq).2.1; have := HGZ.out z (List.mem_of_getElem? HZJ.out); have := HBDS.out; have := HSS.out; omega, (HZZ.out q hq).2.2.1, HGZ.out q hq⟩) HZJ.out (by rw [hFs]; have := HSZD.out; have := HGZ.out z (List.mem_of_getElem? HZJ.out); have := HBDS.out; have := HSS.out; omega) (fun b h1 h2 h3 => (hF1 b h3).trans (HFS.out b h1 h2)) (fun i t u hne ht hu => (hFo _ (by omega)).trans ((World.cell?_of_block (a := ⟨gp, i * 6 + t, none⟩) (HFS.out gp (by have := HGZ.out z (List.mem_of_getElem? HZJ.out); have := HBDS.out; have := HSS.out; omega) (by have := HGZ.out z (List.mem_of_getElem? HZJ.out); have := HBDS.out; have := HSS.out; omega))).trans hu)) ?_ (by rw [HYL.out]; omega) (fun y hy => ?_)
            · rw [hy']
              refine ⟨hFin.1, hFin.2.1, hFin.2.2.1, by have e := hFin.2.2.2.1; rw [HWE.out] at e; exact e, ⟨a7, c7, ?_, HOF.out F (fun b h1 h2 => ?_) (by rw [hFs]; exact HSTG2.out.1.2.2.2)⟩, ia, ic, ?_, HIF.out F (fun b h1 h2 => ?_) (by rw [hFs]; exact Nat.le_refl _)⟩
              · have e := hFin.2.2.2.2.1
                first | exact e | (rw [show (addRule z.x.d xr.d true false).outs.length = z.x.d.outs.length + 1 by simp [addRule]]; exact e)
              · simp only [Bool.or_eq_false_iff, Bool.and_eq_false_iff, decide_eq_false_iff_not] at h2
                exact (hF1 b (by omega)).trans (HSTG2.out.2 b h1 (by omega) (by omega))
              · have e := hFin.2.2.2.2.2
                first | exact e | (rw [show (addRule z.x.d xr.d true false).ins.length = z.x.d.ins.length + 1 by simp [addRule]]; exact e)
              · simp only [Bool.or_eq_false_iff, decide_eq_false_iff_not] at h2
                exact hF1 b h2.1
            · have hp := (right_zero HR.out).2 y.d (by rw [← HCY.out]; exact List.mem_map.2 ⟨y, hy, rfl⟩)
              simp only [polOk, Bool.and_eq_true, rulesOk, few, btw, decide_eq_true_eq, Bool.or_eq_true] at hp
              omega
          have HIM2 := hid (show av = true → (may A 1 x x.src x.dst && may A 2 x x.dst x.src) = true from fun h => by
            rw [HAV.out, Bool.and_eq_true] at h
            rw [hA, Bool.and_eq_true, hy']
            exact ⟨more_may (y' := addRule z.x.d xr.d true false) HDJ.out (fun _ _ => rfl) (fun _ _ _ hl => addRule_lets hl) h.1, more_may (y' := addRule z.x.d xr.d true false) HDJ.out (fun _ _ => rfl) (fun _ _ _ hl => addRule_lets hl) h.2⟩)
          have EA := hid (show A.pods = C.pods by rw [hA])
          have EB := hid (show A.pols = C.pols.set j y' by rw [hA])
          have HRP9 := hid hrp
          have HRQ9 := hid hrq
          clear hF1 hFs hFin hFo hFB hrp hrq hy' hA
          refine (keepAllowed_len A x a (some ⟨gp, 0, none⟩) n n' C.pods.length C.pols.length F (by rw [EA.out]) (by rw [EB.out, List.length_set]) (by rw [EA.out]; exact HRP9.out) (by rw [EB.out]; exact HRQ9.out) (by rw [EA.out]; exact HN.out) (by rw [hrA]) HPX.out).mono ?_
          generalize (may A 1 x x.src x.dst && may A 2 x x.dst x.src) = b2 at HIM2
          rintro e wF ⟨rfl, hbF⟩
          have HFIN := hid (Ext.trans HFB.out hbF)
          clear hbF hrA
          have hcase2 : b2 = true ∨ (b2 = false ∧ av = false) := by
            cases b2
            · refine .inr ⟨rfl, ?_⟩
              cases hv : av
              · rfl
              · exact absurd (HIM2.out hv) (by decide)
            · exact .inl rfl
          rcases hcase2 with rfl | ⟨rfl, hav0⟩
          · go_wp2
            go_ret
            exact ⟨by simp, HFIN.out⟩
          · first
              | (exfalso; have h1 := hav1; rw [hav0] at h1; cases h1; done)
              | (go_wp2
                 go_ret
                 exact ⟨by simp, HFIN.out⟩)
      · have zo : ¬ (z.x.d.outs.length : Int) < 2 := by omega
        by_cases hii : z.x.d.ins.length < 2
        · have zi : (z.x.d.ins.length : Int) < 2 := by omega
          go_upto_region 21 with fail
          obtain ⟨YC, hYC⟩ : ∃ YC, YC = YB := ⟨_, rfl⟩
          have HSTG1 := hid (show Stg wR.heap.size z.lo z.mid YB YC by rw [hYC]; exact Stg.refl _ _ _ _)
          have KYC := hid (show YC.heap[wR.heap.size]? = some (.cells #[.int .i64 z.x.d.space, .int .i64 z.x.d.need, .int .i64 z.x.d.ban, .int .i64 3, .slice oa z.x.d.outs.length oc, .slice ia z.x.d.ins.length ic] 59 (0, 0)) by rw [hYC]; exact KY.out)
          have HOF := hid (show ∀ F : World, (∀ b, b < YC.heap.size → (fun b => (decide (z.mid ≤ b) && decide (b < z.hi)) || decide (b = gp) || decide (b = wR.heap.size)) b = false → F.heap[b]? = YC.heap[b]?) → YC.heap.size ≤ F.heap.size → rdRules F.heap.size F oa z.x.d.outs from fun F hF hFs => gr_same HRO.out (by rw [HOV.out, HOL.out]) (fun b h1 h2 => by rw [hYC]; exact HBSY.out.block b (by have := HGZ.out z (List.mem_of_getElem? HZJ.out); have := HBDS.out; have := HSS.out; omega)) (by rw [hYC]; have := HGZ.out z (List.mem_of_getElem? HZJ.out); have := HBDS.out; have := HSS.out; omega) (by omega) F (fun b h1 h2 => hF b (by rw [hYC]; have := HGZ.out z (List.mem_of_getElem? HZJ.out); have := HBDS.out; have := HSS.out; omega) (by have := HGZ.out z (List.mem_of_getElem? HZJ.out); have := HBDS.out; have := HSS.out; simp; omega)) hFs)
          rw [← hYC]
          clear hYC c3 c4 c5 cf
          have c3 : YC.cell? ⟨wR.heap.size, 3, none⟩ = some (.int .i64 3) := (blk_cell KYC.out 3).trans rfl
          have c5 : YC.cell? ⟨wR.heap.size, 5, none⟩ = some (.slice ia z.x.d.ins.length ic) := (blk_cell KYC.out 5).trans rfl
          have cf := blk_frozen KYC.out
          have HIC := hid (show YC.ownsRow z.mid 64 2 (.slice ia z.x.d.ins.length ic) z.x.d.ins.length (xi.flatMap encXRule) from own_stay HIY.out fun g hg => HSTG1.out.2 g (HIY.out.lt g hg).2 (by have := HIB.out g hg; have := HGZ.out z (List.mem_of_getElem? HZJ.out); have := HBDS.out; have := HSS.out; omega) (by have := HIB.out g hg; omega))
          have hrgb := HSTG1.out.2 rg (by have := HGZ.out z (List.mem_of_getElem? HZJ.out); have := HBDS.out; have := HSS.out; omega) (by have := HGZ.out z (List.mem_of_getElem? HZJ.out); have := HBDS.out; have := HSS.out; omega) (by have := HGZ.out z (List.mem_of_getElem? HZJ.out); have := HBDS.out; have := HSS.out; omega)
          have HXCC := hid (xr_cells (xr := xr) ((World.cell?_of_block (a := ⟨rg, 0, none⟩) hrgb).trans (cell_to HW0.out HBYB.out)) ((World.cell?_of_block (a := ⟨rg, 1, none⟩) hrgb).trans (cell_to HW1.out HBYB.out)))
          clear hrgb
          have HSZC := hid HSTG1.out.1.2.2.2
          go_upto_region 23 with (at_builtin; go_must (refine wpList_append_own_at _ rfl _ _ 57 rfl z.mid 64 ir0 _ 2 48 Tryz.underlying57 hir irz0 irz1 irz2 rfl (by decide) _ _ _ rfl HIC.out ⟨rg, 0, none⟩ 1 gc (encXRule xr) rfl rfl HXCC.out (encXRule_one _) (by unfold maxLen; omega) (by omega) (by have := HBDS.out; have := HSS.out; have := HSZC.out; omega) ?_); intro v8 w8 hown8 hg8 hnil8 hat8; obtain ⟨a8, c8, hv8, hc8, _⟩ := own_slice hown8; subst hv8; have HO8 := hid hown8; have HG8 := hid hg8; have HA8 := hid hat8; have KY8 := hid ((hg8.block wR.heap.size (by have := HSS.out; have := HSZC.out; omega) (fun e => by have := HIB.out _ e.symm; have := HBDS.out; have := HSS.out; omega)).trans KYC.out); have f5 := blk_cell KY8.out; have ff := blk_frozen KY8.out; clear hown8 hg8 hnil8 hat8 hc8 c3 c5 cf)
          obtain ⟨a9, c9, e9, _, hof⟩ := gr_more (i := 5) (u := .slice a8 (z.x.d.ins.length + 1) c8) (yb := wR.heap.size) (H := (fun b => decide (b = gp) || decide (b = wR.heap.size))) (v := .slice ia z.x.d.ins.length ic) HI1.out (by rw [← HIL.out, ← HIV.out]; exact HI4.out) (fun b h1 h2 => (HSTG1.out.2 b (by have := HGZ.out z (List.mem_of_getElem? HZJ.out); have := HBDS.out; have := HSS.out; omega) (by have := HGZ.out z (List.mem_of_getElem? HZJ.out); have := HBDS.out; have := HSS.out; omega) (by omega)).trans (HBSY.out.block b (by have := HGZ.out z (List.mem_of_getElem? HZJ.out); have := HBDS.out; have := HSS.out; omega))) (fun b h1 h2 => (HSTG1.out.2 b (by have := HGZ.out z (List.mem_of_getElem? HZJ.out); have := HBDS.out; have := HSS.out; omega) (by omega) (by have := HGZ.out z (List.mem_of_getElem? HZJ.out); have := HBDS.out; have := HSS.out; omega)).trans (HBYB.out.block b h2)) (Nat.le_trans HBYB.out.size HSZC.out) (by have := HGZ.out z (List.mem_of_getElem? HZJ.out); have := HBDS.out; have := HSS.out; omega) (by have := HGZ.out z (List.mem_of_getElem? HZJ.out); have := HBDS.out; have := HSS.out; omega) (by rw [HIL.out]; exact HIC.out) (fun g hg => (HIB.out g hg).2) HNR.out HG8.out (by rw [HIL.out]; exact HO8.out) HA8.out (by omega) (fun b h1 h2 => by have := HGZ.out z (List.mem_of_getElem? HZJ.out); have := HBDS.out; have := HSS.out; simp; omega) (fun b h1 h2 => by have := HGZ.out z (List.mem_of_getElem? HZJ.out); have := HBDS.out; have := HSS.out; simp; omega) (by have := HGZ.out z (List.mem_of_getElem? HZJ.out); have := HBDS.out; have := HSS.out; have := HSZC.out; simp; omega) (by simp)
          injection e9 with q1 q2 q3
          clear q2 q3
          subst q1
          have HIF := hid (show ∀ F : World, (∀ b, b < (w8.setCell ⟨wR.heap.size, 5, none⟩ (.slice a8 (z.x.d.ins.length + 1) c8)).heap.size → (fun b => decide (b = gp) || decide (b = wR.heap.size)) b = false → F.heap[b]? = (w8.setCell ⟨wR.heap.size, 5, none⟩ (.slice a8 (z.x.d.ins.length + 1) c8)).heap[b]?) → (w8.setCell ⟨wR.heap.size, 5, none⟩ (.slice a8 (z.x.d.ins.length + 1) c8)).heap.size ≤ F.heap.size → rdRules F.heap.size F a8 (z.x.d.ins ++ [xr.d]) from fun F hF hFs => hof F (fun b hb hH => hF b (by rw [World.size_setCell]; exact hb) hH) (by rw [World.size_setCell] at hFs; exact hFs))
          have HSTG2 := hid (Stg.app (yb := wR.heap.size) 5 (.slice a8 (z.x.d.ins.length + 1) c8) HG8.out HIB.out)
          have KYD := hid (show (w8.setCell ⟨wR.heap.size, 5, none⟩ (.slice a8 (z.x.d.ins.length + 1) c8)).heap[wR.heap.size]? = some (.cells #[.int .i64 z.x.d.space, .int .i64 z.x.d.need, .int .i64 z.x.d.ban, .int .i64 3, .slice oa z.x.d.outs.length oc, .slice a8 (z.x.d.ins.length + 1) c8] 59 (0, 0)) from (set_blk KY8.out 5 _).trans rfl)
          generalize w8.setCell ⟨wR.heap.size, 5, none⟩ (.slice a8 (z.x.d.ins.length + 1) c8) = YD at HSTG2 KYD HIF ⊢
          clear f5 ff hof
          have HSZD := hid (Nat.le_trans HSZC.out HSTG2.out.1.2.2.2)
          have HFD := hid (show ∀ b, b < YB.heap.size → b ≠ wR.heap.size → ¬ (z.lo ≤ b ∧ b < z.hi) → YD.heap[b]? = YB.heap[b]? from fun b h1 h2 h3 => (HSTG2.out.2 b (Nat.lt_of_lt_of_le h1 HSZC.out) h2 (by have := HBDS.out; omega)).trans (HSTG1.out.2 b h1 h2 (by have := HBDS.out; omega)))
          have HFS := hid (show ∀ b, b < wS.heap.size → ¬ (z.lo ≤ b ∧ b < z.hi) → YD.heap[b]? = wS.heap[b]? from fun b h1 h2 => (HFD.out b (by have := HGZ.out z (List.mem_of_getElem? HZJ.out); have := HBDS.out; have := HSS.out; omega) (by have := HGZ.out z (List.mem_of_getElem? HZJ.out); have := HBDS.out; have := HSS.out; omega) h2).trans (HBSY.out.block b h1))
          have HGD := hid ((HFS.out gp (by have := HGZ.out z (List.mem_of_getElem? HZJ.out); have := HBDS.out; have := HSS.out; omega) (by have := HGZ.out z (List.mem_of_getElem? HZJ.out); have := HBDS.out; have := HSS.out; omega)).trans HGB.out)
          have hgd := HFS.out gp (by have := HGZ.out z (List.mem_of_getElem? HZJ.out); have := HBDS.out; have := HSS.out; omega) (by have := HGZ.out z (List.mem_of_getElem? HZJ.out); have := HBDS.out; have := HSS.out; omega)
          have g0 := (World.cell?_of_block (a := ⟨gp, j * 6, none⟩) hgd).trans HE.out.1
          have g1 := (World.cell?_of_block (a := ⟨gp, j * 6 + 1, none⟩) hgd).trans HE.out.2.1
          have g2 := (World.cell?_of_block (a := ⟨gp, j * 6 + 2, none⟩) hgd).trans HE.out.2.2.1
          have g3 := (World.cell?_of_block (a := ⟨gp, j * 6 + 3, none⟩) hgd).trans HE.out.2.2.2.1
          have g4 := (World.cell?_of_block (a := ⟨gp, j * 6 + 4, none⟩) hgd).trans HE.out.2.2.2.2.1
          have g5 := (World.cell?_of_block (a := ⟨gp, j * 6 + 5, none⟩) hgd).trans HE.out.2.2.2.2.2
          have gfz := blk_frozen HGD.out
          have KCD := (HFS.out wB.heap.size (by have := HGZ.out z (List.mem_of_getElem? HZJ.out); have := HBDS.out; have := HSS.out; omega) (by have := HGZ.out z (List.mem_of_getElem? HZJ.out); have := HBDS.out; have := HSS.out; omega)).trans KCS.out
          have KPD := (HFS.out wP.heap.size (by have := HGZ.out z (List.mem_of_getElem? HZJ.out); have := HBDS.out; have := HSS.out; omega) (by have := HGZ.out z (List.mem_of_getElem? HZJ.out); have := HBDS.out; have := HSS.out; omega)).trans KPS.out
          have i0 : YD.cell? ⟨wB.heap.size, 0, none⟩ = some (.slice a C.pods.length n) := (blk_cell KCD 0).trans rfl
          have i1 : YD.cell? ⟨wB.heap.size, 1, none⟩ = some (.slice (some ⟨gp, 0, none⟩) C.pols.length n') := (blk_cell KCD 1).trans rfl
          have i2 : YD.cell? ⟨wP.heap.size, 0, none⟩ = some (.int .i64 x.src) := (blk_cell KPD 0).trans rfl
          have i3 : YD.cell? ⟨wP.heap.size, 1, none⟩ = some (.int .i64 x.dst) := (blk_cell KPD 1).trans rfl
          have i4 : YD.cell? ⟨wP.heap.size, 2, none⟩ = some (.int .i64 x.proto) := (blk_cell KPD 2).trans rfl
          have i5 : YD.cell? ⟨wP.heap.size, 3, none⟩ = some (.int .i64 x.port) := (blk_cell KPD 3).trans rfl
          have d0 : YD.cell? ⟨wR.heap.size, 0, none⟩ = some (.int .i64 z.x.d.space) := (blk_cell KYD.out 0).trans rfl
          have d1 : YD.cell? ⟨wR.heap.size, 1, none⟩ = some (.int .i64 z.x.d.need) := (blk_cell KYD.out 1).trans rfl
          have d2 : YD.cell? ⟨wR.heap.size, 2, none⟩ = some (.int .i64 z.x.d.ban) := (blk_cell KYD.out 2).trans rfl
          have d3 : YD.cell? ⟨wR.heap.size, 3, none⟩ = some (.int .i64 3) := (blk_cell KYD.out 3).trans rfl
          have d4 : YD.cell? ⟨wR.heap.size, 4, none⟩ = some (.slice oa z.x.d.outs.length oc) := (blk_cell KYD.out 4).trans rfl
          have d5 : YD.cell? ⟨wR.heap.size, 5, none⟩ = some (.slice a8 (z.x.d.ins.length + 1) c8) := (blk_cell KYD.out 5).trans rfl
          have n1 : ¬ gp = wB.heap.size := by have := HGZ.out z (List.mem_of_getElem? HZJ.out); have := HBDS.out; have := HSS.out; omega
          have n2 : ¬ wB.heap.size = gp := by have := HGZ.out z (List.mem_of_getElem? HZJ.out); have := HBDS.out; have := HSS.out; omega
          have n3 : ¬ gp = wP.heap.size := by have := HGZ.out z (List.mem_of_getElem? HZJ.out); have := HBDS.out; have := HSS.out; omega
          have n4 : ¬ wP.heap.size = gp := by have := HGZ.out z (List.mem_of_getElem? HZJ.out); have := HBDS.out; have := HSS.out; omega
          clear hgd KCD KPD
          go_wp2_with fail
          have hF1 := put6_far YD gp (j * 6) (.int .i64 z.x.d.space) (.int .i64 z.x.d.need) (.int .i64 z.x.d.ban) (.int .i64 3) (.slice oa z.x.d.outs.length oc) (.slice a8 (z.x.d.ins.length + 1) c8)
          have hFs := put6_size YD gp (j * 6) (.int .i64 z.x.d.space) (.int .i64 z.x.d.need) (.int .i64 z.x.d.ban) (.int .i64 3) (.slice oa z.x.d.outs.length oc) (.slice a8 (z.x.d.ins.length + 1) c8)
          have hFin := put6_in (w := YD) (g := gp) (o := j * 6) (a0 := .int .i64 z.x.d.space) (a1 := .int .i64 z.x.d.need) (a2 := .int .i64 z.x.d.ban) (a3 := .int .i64 3) (a4 := .slice oa z.x.d.outs.length oc) (a5 := .slice a8 (z.x.d.ins.length + 1) c8) HGD.out HCS6.out
          have hFo : ∀ i, (i < j * 6 ∨ j * 6 + 6 ≤ i) → (put6 YD gp (j * 6) (.int .i64 z.x.d.space) (.int .i64 z.x.d.need) (.int .i64 z.x.d.ban) (.int .i64 3) (.slice oa z.x.d.outs.length oc) (.slice a8 (z.x.d.ins.length + 1) c8)).cell? ⟨gp, i, none⟩ = YD.cell? ⟨gp, i, none⟩ := fun i hi => put6_out HGD.out hi
          have hFB : Below w.heap.size w (put6 YD gp (j * 6) (.int .i64 z.x.d.space) (.int .i64 z.x.d.need) (.int .i64 z.x.d.ban) (.int .i64 3) (.slice oa z.x.d.outs.length oc) (.slice a8 (z.x.d.ins.length + 1) c8)) := put6_below (((Ext.trans HBwS.out HBSY.out).trans (HSTG1.out.below (by have := HGZ.out z (List.mem_of_getElem? HZJ.out); have := HBDS.out; have := HSS.out; omega) (by have := HGZ.out z (List.mem_of_getElem? HZJ.out); have := HBDS.out; have := HSS.out; omega) (by have := HGZ.out z (List.mem_of_getElem? HZJ.out); have := HBDS.out; have := HSS.out; omega))).trans (HSTG2.out.below (by have := HGZ.out z (List.mem_of_getElem? HZJ.out); have := HBDS.out; have := HSS.out; omega) (by have := HGZ.out z (List.mem_of_getElem? HZJ.out); have := HBDS.out; have := HSS.out; omega) (by have := HSZC.out; have := HGZ.out z (List.mem_of_getElem? HZJ.out); have := HBDS.out; have := HSS.out; omega))) (by have := HGZ.out z (List.mem_of_getElem? HZJ.out); have := HBDS.out; have := HSS.out; omega)
          show Calls _ _ _ (put6 YD gp (j * 6) (.int .i64 z.x.d.space) (.int .i64 z.x.d.need) (.int .i64 z.x.d.ban) (.int .i64 3) (.slice oa z.x.d.outs.length oc) (.slice a8 (z.x.d.ins.length + 1) c8)) _
          generalize put6 YD gp (j * 6) (.int .i64 z.x.d.space) (.int .i64 z.x.d.need) (.int .i64 z.x.d.ban) (.int .i64 3) (.slice oa z.x.d.outs.length oc) (.slice a8 (z.x.d.ins.length + 1) c8) = F at hF1 hFs hFin hFo hFB ⊢
          clear g0 g1 g2 g3 g4 g5 gfz i0 i1 i2 i3 i4 i5 d0 d1 d2 d3 d4 d5 n1 n2 n3 n4
          have HFB := hid hFB
          obtain ⟨y', hy'⟩ : ∃ y', y' = addRule z.x.d xr.d false true := ⟨_, rfl⟩
          have HPY := hid (show polOk y' = true by rw [hy']; exact addRule_ok HPOK.out (by rw [HXD.out]; exact mkRule_ok r) (fun h => by cases h) (fun _ => by have := HWE.out; omega))
          have hrA := set_right (i := j) HR.out HPY.out
          obtain ⟨A, hA⟩ : ∃ A : DClu, A = ⟨C.pods, C.pols.set j y'⟩ := ⟨_, rfl⟩
          rw [← hA] at hrA
          have hrp : rdPods F.heap.size F a C.pods := by
            have hup := HUP.out
            rw [HCP.out] at hup
            exact gr_pods hup HVM.out HL4.out.1 fun b h1 h2 => (hF1 b (by have := HGZ.out z (List.mem_of_getElem? HZJ.out); have := HBDS.out; have := HSS.out; omega)).trans (HFS.out b h1 (by have := HGZ.out z (List.mem_of_getElem? HZJ.out); have := HBDS.out; have := HSS.out; omega))
          have hrq : rdPols F.heap.size F (some ⟨gp, 0, none⟩) (C.pols.set j y') := by
            rw [← HCY.out]
            refine gr_pols (wS := wS) (m := m) HCELL.out (by rw [hFs]; have := HSZD.out; have := HGZ.out z (List.mem_of_getElem? HZJ.out); have := HBDS.out; have := HSS.out; omega) HZX.out HZP.out (fun q hq => ⟨(HZZ.out q hq).1, by have := (HZZ.out q hq).2.1; have := HGZ.out z (List.mem_of_getElem? HZJ.out); have := HBDS.out; have := HSS.out; omega, (HZZ.out q hq).2.2.1, HGZ.out q hq⟩) HZJ.out (by rw [hFs]; have := HSZD.out; have := HGZ.out z (List.mem_of_getElem? HZJ.out); have := HBDS.out; have := HSS.out; omega) (fun b h1 h2 h3 => (hF1 b h3).trans (HFS.out b h1 h2)) (fun i t u hne ht hu => (hFo _ (by omega)).trans ((World.cell?_of_block (a := ⟨gp, i * 6 + t, none⟩) (HFS.out gp (by have := HGZ.out z (List.mem_of_getElem? HZJ.out); have := HBDS.out; have := HSS.out; omega) (by have := HGZ.out z (List.mem_of_getElem? HZJ.out); have := HBDS.out; have := HSS.out; omega))).trans hu)) ?_ (by rw [HYL.out]; omega) (fun y hy => ?_)
            · rw [hy']
              refine ⟨hFin.1, hFin.2.1, hFin.2.2.1, by have e := hFin.2.2.2.1; rw [HWE.out] at e; exact e, ⟨oa, oc, ?_, HOF.out F (fun b h1 h2 => ?_) (by rw [hFs]; exact HSTG2.out.1.2.2.2)⟩, a8, c8, ?_, HIF.out F (fun b h1 h2 => ?_) (by rw [hFs]; exact Nat.le_refl _)⟩
              · have e := hFin.2.2.2.2.1
                first | exact e | (rw [show (addRule z.x.d xr.d false true).outs.length = z.x.d.outs.length + 1 by simp [addRule]]; exact e)
              · simp only [Bool.or_eq_false_iff, Bool.and_eq_false_iff, decide_eq_false_iff_not] at h2
                exact (hF1 b (by omega)).trans (HSTG2.out.2 b h1 (by omega) (by omega))
              · have e := hFin.2.2.2.2.2
                first | exact e | (rw [show (addRule z.x.d xr.d false true).ins.length = z.x.d.ins.length + 1 by simp [addRule]]; exact e)
              · simp only [Bool.or_eq_false_iff, decide_eq_false_iff_not] at h2
                exact hF1 b h2.1
            · have hp := (right_zero HR.out).2 y.d (by rw [← HCY.out]; exact List.mem_map.2 ⟨y, hy, rfl⟩)
              simp only [polOk, Bool.and_eq_true, rulesOk, few, btw, decide_eq_true_eq, Bool.or_eq_true] at hp
              omega
          have HIM2 := hid (show av = true → (may A 1 x x.src x.dst && may A 2 x x.dst x.src) = true from fun h => by
            rw [HAV.out, Bool.and_eq_true] at h
            rw [hA, Bool.and_eq_true, hy']
            exact ⟨more_may (y' := addRule z.x.d xr.d false true) HDJ.out (fun _ _ => rfl) (fun _ _ _ hl => addRule_lets hl) h.1, more_may (y' := addRule z.x.d xr.d false true) HDJ.out (fun _ _ => rfl) (fun _ _ _ hl => addRule_lets hl) h.2⟩)
          have EA := hid (show A.pods = C.pods by rw [hA])
          have EB := hid (show A.pols = C.pols.set j y' by rw [hA])
          have HRP9 := hid hrp
          have HRQ9 := hid hrq
          clear hF1 hFs hFin hFo hFB hrp hrq hy' hA
          refine (keepAllowed_len A x a (some ⟨gp, 0, none⟩) n n' C.pods.length C.pols.length F (by rw [EA.out]) (by rw [EB.out, List.length_set]) (by rw [EA.out]; exact HRP9.out) (by rw [EB.out]; exact HRQ9.out) (by rw [EA.out]; exact HN.out) (by rw [hrA]) HPX.out).mono ?_
          generalize (may A 1 x x.src x.dst && may A 2 x x.dst x.src) = b2 at HIM2
          rintro e wF ⟨rfl, hbF⟩
          have HFIN := hid (Ext.trans HFB.out hbF)
          clear hbF hrA
          have hcase2 : b2 = true ∨ (b2 = false ∧ av = false) := by
            cases b2
            · refine .inr ⟨rfl, ?_⟩
              cases hv : av
              · rfl
              · exact absurd (HIM2.out hv) (by decide)
            · exact .inl rfl
          rcases hcase2 with rfl | ⟨rfl, hav0⟩
          · go_wp2
            go_ret
            exact ⟨by simp, HFIN.out⟩
          · first
              | (exfalso; have h1 := hav1; rw [hav0] at h1; cases h1; done)
              | (go_wp2
                 go_ret
                 exact ⟨by simp, HFIN.out⟩)
        · have zi : ¬ (z.x.d.ins.length : Int) < 2 := by omega
          go_upto_region 21 with fail
          obtain ⟨YC, hYC⟩ : ∃ YC, YC = YB := ⟨_, rfl⟩
          have HSTG1 := hid (show Stg wR.heap.size z.lo z.mid YB YC by rw [hYC]; exact Stg.refl _ _ _ _)
          have KYC := hid (show YC.heap[wR.heap.size]? = some (.cells #[.int .i64 z.x.d.space, .int .i64 z.x.d.need, .int .i64 z.x.d.ban, .int .i64 3, .slice oa z.x.d.outs.length oc, .slice ia z.x.d.ins.length ic] 59 (0, 0)) by rw [hYC]; exact KY.out)
          have HOF := hid (show ∀ F : World, (∀ b, b < YC.heap.size → (fun b => (decide (z.mid ≤ b) && decide (b < z.hi)) || decide (b = gp) || decide (b = wR.heap.size)) b = false → F.heap[b]? = YC.heap[b]?) → YC.heap.size ≤ F.heap.size → rdRules F.heap.size F oa z.x.d.outs from fun F hF hFs => gr_same HRO.out (by rw [HOV.out, HOL.out]) (fun b h1 h2 => by rw [hYC]; exact HBSY.out.block b (by have := HGZ.out z (List.mem_of_getElem? HZJ.out); have := HBDS.out; have := HSS.out; omega)) (by rw [hYC]; have := HGZ.out z (List.mem_of_getElem? HZJ.out); have := HBDS.out; have := HSS.out; omega) (by omega) F (fun b h1 h2 => hF b (by rw [hYC]; have := HGZ.out z (List.mem_of_getElem? HZJ.out); have := HBDS.out; have := HSS.out; omega) (by have := HGZ.out z (List.mem_of_getElem? HZJ.out); have := HBDS.out; have := HSS.out; simp; omega)) hFs)
          rw [← hYC]
          clear hYC c3 c4 c5 cf
          have c3 : YC.cell? ⟨wR.heap.size, 3, none⟩ = some (.int .i64 3) := (blk_cell KYC.out 3).trans rfl
          have c5 : YC.cell? ⟨wR.heap.size, 5, none⟩ = some (.slice ia z.x.d.ins.length ic) := (blk_cell KYC.out 5).trans rfl
          have cf := blk_frozen KYC.out
          go_upto_region 23 with fail
          obtain ⟨YD, hYD⟩ : ∃ YD, YD = YC := ⟨_, rfl⟩
          have HSZC := hid HSTG1.out.1.2.2.2
          have HSTG2 := hid (show Stg wR.heap.size z.mid z.hi YC YD by rw [hYD]; exact Stg.refl _ _ _ _)
          have KYD := hid (show YD.heap[wR.heap.size]? = some (.cells #[.int .i64 z.x.d.space, .int .i64 z.x.d.need, .int .i64 z.x.d.ban, .int .i64 3, .slice oa z.x.d.outs.length oc, .slice ia z.x.d.ins.length ic] 59 (0, 0)) by rw [hYD]; exact KYC.out)
          have HIF := hid (show ∀ F : World, (∀ b, b < YD.heap.size → (fun b => decide (b = gp) || decide (b = wR.heap.size)) b = false → F.heap[b]? = YD.heap[b]?) → YD.heap.size ≤ F.heap.size → rdRules F.heap.size F ia z.x.d.ins from fun F hF hFs => gr_same HRI.out (by rw [HIV.out, HIL.out]) (fun b h1 h2 => by rw [hYD]; exact (HSTG1.out.2 b (by have := HGZ.out z (List.mem_of_getElem? HZJ.out); have := HBDS.out; have := HSS.out; omega) (by have := HGZ.out z (List.mem_of_getElem? HZJ.out); have := HBDS.out; have := HSS.out; omega) (by omega)).trans (HBSY.out.block b (by have := HGZ.out z (List.mem_of_getElem? HZJ.out); have := HBDS.out; have := HSS.out; omega))) (by rw [hYD]; have := HSZC.out; have := HGZ.out z (List.mem_of_getElem? HZJ.out); have := HBDS.out; have := HSS.out; omega) (by omega) F (fun b h1 h2 => hF b (by rw [hYD]; have := HSZC.out; have := HGZ.out z (List.mem_of_getElem? HZJ.out); have := HBDS.out; have := HSS.out; omega) (by have := HGZ.out z (List.mem_of_getElem? HZJ.out); have := HBDS.out; have := HSS.out; simp; omega)) hFs)
          rw [← hYD]
          clear hYD c3 c5 cf
          have HSZD := hid (Nat.le_trans HSZC.out HSTG2.out.1.2.2.2)
          have HFD := hid (show ∀ b, b < YB.heap.size → b ≠ wR.heap.size → ¬ (z.lo ≤ b ∧ b < z.hi) → YD.heap[b]? = YB.heap[b]? from fun b h1 h2 h3 => (HSTG2.out.2 b (Nat.lt_of_lt_of_le h1 HSZC.out) h2 (by have := HBDS.out; omega)).trans (HSTG1.out.2 b h1 h2 (by have := HBDS.out; omega)))
          have HFS := hid (show ∀ b, b < wS.heap.size → ¬ (z.lo ≤ b ∧ b < z.hi) → YD.heap[b]? = wS.heap[b]? from fun b h1 h2 => (HFD.out b (by have := HGZ.out z (List.mem_of_getElem? HZJ.out); have := HBDS.out; have := HSS.out; omega) (by have := HGZ.out z (List.mem_of_getElem? HZJ.out); have := HBDS.out; have := HSS.out; omega) h2).trans (HBSY.out.block b h1))
          have HGD := hid ((HFS.out gp (by have := HGZ.out z (List.mem_of_getElem? HZJ.out); have := HBDS.out; have := HSS.out; omega) (by have := HGZ.out z (List.mem_of_getElem? HZJ.out); have := HBDS.out; have := HSS.out; omega)).trans HGB.out)
          have hgd := HFS.out gp (by have := HGZ.out z (List.mem_of_getElem? HZJ.out); have := HBDS.out; have := HSS.out; omega) (by have := HGZ.out z (List.mem_of_getElem? HZJ.out); have := HBDS.out; have := HSS.out; omega)
          have g0 := (World.cell?_of_block (a := ⟨gp, j * 6, none⟩) hgd).trans HE.out.1
          have g1 := (World.cell?_of_block (a := ⟨gp, j * 6 + 1, none⟩) hgd).trans HE.out.2.1
          have g2 := (World.cell?_of_block (a := ⟨gp, j * 6 + 2, none⟩) hgd).trans HE.out.2.2.1
          have g3 := (World.cell?_of_block (a := ⟨gp, j * 6 + 3, none⟩) hgd).trans HE.out.2.2.2.1
          have g4 := (World.cell?_of_block (a := ⟨gp, j * 6 + 4, none⟩) hgd).trans HE.out.2.2.2.2.1
          have g5 := (World.cell?_of_block (a := ⟨gp, j * 6 + 5, none⟩) hgd).trans HE.out.2.2.2.2.2
          have gfz := blk_frozen HGD.out
          have KCD := (HFS.out wB.heap.size (by have := HGZ.out z (List.mem_of_getElem? HZJ.out); have := HBDS.out; have := HSS.out; omega) (by have := HGZ.out z (List.mem_of_getElem? HZJ.out); have := HBDS.out; have := HSS.out; omega)).trans KCS.out
          have KPD := (HFS.out wP.heap.size (by have := HGZ.out z (List.mem_of_getElem? HZJ.out); have := HBDS.out; have := HSS.out; omega) (by have := HGZ.out z (List.mem_of_getElem? HZJ.out); have := HBDS.out; have := HSS.out; omega)).trans KPS.out
          have i0 : YD.cell? ⟨wB.heap.size, 0, none⟩ = some (.slice a C.pods.length n) := (blk_cell KCD 0).trans rfl
          have i1 : YD.cell? ⟨wB.heap.size, 1, none⟩ = some (.slice (some ⟨gp, 0, none⟩) C.pols.length n') := (blk_cell KCD 1).trans rfl
          have i2 : YD.cell? ⟨wP.heap.size, 0, none⟩ = some (.int .i64 x.src) := (blk_cell KPD 0).trans rfl
          have i3 : YD.cell? ⟨wP.heap.size, 1, none⟩ = some (.int .i64 x.dst) := (blk_cell KPD 1).trans rfl
          have i4 : YD.cell? ⟨wP.heap.size, 2, none⟩ = some (.int .i64 x.proto) := (blk_cell KPD 2).trans rfl
          have i5 : YD.cell? ⟨wP.heap.size, 3, none⟩ = some (.int .i64 x.port) := (blk_cell KPD 3).trans rfl
          have d0 : YD.cell? ⟨wR.heap.size, 0, none⟩ = some (.int .i64 z.x.d.space) := (blk_cell KYD.out 0).trans rfl
          have d1 : YD.cell? ⟨wR.heap.size, 1, none⟩ = some (.int .i64 z.x.d.need) := (blk_cell KYD.out 1).trans rfl
          have d2 : YD.cell? ⟨wR.heap.size, 2, none⟩ = some (.int .i64 z.x.d.ban) := (blk_cell KYD.out 2).trans rfl
          have d3 : YD.cell? ⟨wR.heap.size, 3, none⟩ = some (.int .i64 3) := (blk_cell KYD.out 3).trans rfl
          have d4 : YD.cell? ⟨wR.heap.size, 4, none⟩ = some (.slice oa z.x.d.outs.length oc) := (blk_cell KYD.out 4).trans rfl
          have d5 : YD.cell? ⟨wR.heap.size, 5, none⟩ = some (.slice ia z.x.d.ins.length ic) := (blk_cell KYD.out 5).trans rfl
          have n1 : ¬ gp = wB.heap.size := by have := HGZ.out z (List.mem_of_getElem? HZJ.out); have := HBDS.out; have := HSS.out; omega
          have n2 : ¬ wB.heap.size = gp := by have := HGZ.out z (List.mem_of_getElem? HZJ.out); have := HBDS.out; have := HSS.out; omega
          have n3 : ¬ gp = wP.heap.size := by have := HGZ.out z (List.mem_of_getElem? HZJ.out); have := HBDS.out; have := HSS.out; omega
          have n4 : ¬ wP.heap.size = gp := by have := HGZ.out z (List.mem_of_getElem? HZJ.out); have := HBDS.out; have := HSS.out; omega
          clear hgd KCD KPD
          go_wp2_with fail
          have hF1 := put6_far YD gp (j * 6) (.int .i64 z.x.d.space) (.int .i64 z.x.d.need) (.int .i64 z.x.d.ban) (.int .i64 3) (.slice oa z.x.d.outs.length oc) (.slice ia z.x.d.ins.length ic)
          have hFs := put6_size YD gp (j * 6) (.int .i64 z.x.d.space) (.int .i64 z.x.d.need) (.int .i64 z.x.d.ban) (.int .i64 3) (.slice oa z.x.d.outs.length oc) (.slice ia z.x.d.ins.length ic)
          have hFin := put6_in (w := YD) (g := gp) (o := j * 6) (a0 := .int .i64 z.x.d.space) (a1 := .int .i64 z.x.d.need) (a2 := .int .i64 z.x.d.ban) (a3 := .int .i64 3) (a4 := .slice oa z.x.d.outs.length oc) (a5 := .slice ia z.x.d.ins.length ic) HGD.out HCS6.out
          have hFo : ∀ i, (i < j * 6 ∨ j * 6 + 6 ≤ i) → (put6 YD gp (j * 6) (.int .i64 z.x.d.space) (.int .i64 z.x.d.need) (.int .i64 z.x.d.ban) (.int .i64 3) (.slice oa z.x.d.outs.length oc) (.slice ia z.x.d.ins.length ic)).cell? ⟨gp, i, none⟩ = YD.cell? ⟨gp, i, none⟩ := fun i hi => put6_out HGD.out hi
          have hFB : Below w.heap.size w (put6 YD gp (j * 6) (.int .i64 z.x.d.space) (.int .i64 z.x.d.need) (.int .i64 z.x.d.ban) (.int .i64 3) (.slice oa z.x.d.outs.length oc) (.slice ia z.x.d.ins.length ic)) := put6_below (((Ext.trans HBwS.out HBSY.out).trans (HSTG1.out.below (by have := HGZ.out z (List.mem_of_getElem? HZJ.out); have := HBDS.out; have := HSS.out; omega) (by have := HGZ.out z (List.mem_of_getElem? HZJ.out); have := HBDS.out; have := HSS.out; omega) (by have := HGZ.out z (List.mem_of_getElem? HZJ.out); have := HBDS.out; have := HSS.out; omega))).trans (HSTG2.out.below (by have := HGZ.out z (List.mem_of_getElem? HZJ.out); have := HBDS.out; have := HSS.out; omega) (by have := HGZ.out z (List.mem_of_getElem? HZJ.out); have := HBDS.out; have := HSS.out; omega) (by have := HSZC.out; have := HGZ.out z (List.mem_of_getElem? HZJ.out); have := HBDS.out; have := HSS.out; omega))) (by have := HGZ.out z (List.mem_of_getElem? HZJ.out); have := HBDS.out; have := HSS.out; omega)
          show Calls _ _ _ (put6 YD gp (j * 6) (.int .i64 z.x.d.space) (.int .i64 z.x.d.need) (.int .i64 z.x.d.ban) (.int .i64 3) (.slice oa z.x.d.outs.length oc) (.slice ia z.x.d.ins.length ic)) _
          generalize put6 YD gp (j * 6) (.int .i64 z.x.d.space) (.int .i64 z.x.d.need) (.int .i64 z.x.d.ban) (.int .i64 3) (.slice oa z.x.d.outs.length oc) (.slice ia z.x.d.ins.length ic) = F at hF1 hFs hFin hFo hFB ⊢
          clear g0 g1 g2 g3 g4 g5 gfz i0 i1 i2 i3 i4 i5 d0 d1 d2 d3 d4 d5 n1 n2 n3 n4
          have HFB := hid hFB
          obtain ⟨y', hy'⟩ : ∃ y', y' = addRule z.x.d xr.d false false := ⟨_, rfl⟩
          have HPY := hid (show polOk y' = true by rw [hy']; exact addRule_ok HPOK.out (by rw [HXD.out]; exact mkRule_ok r) (fun h => by cases h) (fun h => by cases h))
          have hrA := set_right (i := j) HR.out HPY.out
          obtain ⟨A, hA⟩ : ∃ A : DClu, A = ⟨C.pods, C.pols.set j y'⟩ := ⟨_, rfl⟩
          rw [← hA] at hrA
          have hrp : rdPods F.heap.size F a C.pods := by
            have hup := HUP.out
            rw [HCP.out] at hup
            exact gr_pods hup HVM.out HL4.out.1 fun b h1 h2 => (hF1 b (by have := HGZ.out z (List.mem_of_getElem? HZJ.out); have := HBDS.out; have := HSS.out; omega)).trans (HFS.out b h1 (by have := HGZ.out z (List.mem_of_getElem? HZJ.out); have := HBDS.out; have := HSS.out; omega))
          have hrq : rdPols F.heap.size F (some ⟨gp, 0, none⟩) (C.pols.set j y') := by
            rw [← HCY.out]
            refine gr_pols (wS := wS) (m := m) HCELL.out (by rw [hFs]; have := HSZD.out; have := HGZ.out z (List.mem_of_getElem? HZJ.out); have := HBDS.out; have := HSS.out; omega) HZX.out HZP.out (fun q hq => ⟨(HZZ.out q hq).1, by have := (HZZ.out q hq).2.1; have := HGZ.out z (List.mem_of_getElem? HZJ.out); have := HBDS.out; have := HSS.out; omega, (HZZ.out q hq).2.2.1, HGZ.out q hq⟩) HZJ.out (by rw [hFs]; have := HSZD.out; have := HGZ.out z (List.mem_of_getElem? HZJ.out); have := HBDS.out; have := HSS.out; omega) (fun b h1 h2 h3 => (hF1 b h3).trans (HFS.out b h1 h2)) (fun i t u hne ht hu => (hFo _ (by omega)).trans ((World.cell?_of_block (a := ⟨gp, i * 6 + t, none⟩) (HFS.out gp (by have := HGZ.out z (List.mem_of_getElem? HZJ.out); have := HBDS.out; have := HSS.out; omega) (by have := HGZ.out z (List.mem_of_getElem? HZJ.out); have := HBDS.out; have := HSS.out; omega))).trans hu)) ?_ (by rw [HYL.out]; omega) (fun y hy => ?_)
            · rw [hy']
              refine ⟨hFin.1, hFin.2.1, hFin.2.2.1, by have e := hFin.2.2.2.1; rw [HWE.out] at e; exact e, ⟨oa, oc, ?_, HOF.out F (fun b h1 h2 => ?_) (by rw [hFs]; exact HSTG2.out.1.2.2.2)⟩, ia, ic, ?_, HIF.out F (fun b h1 h2 => ?_) (by rw [hFs]; exact Nat.le_refl _)⟩
              · have e := hFin.2.2.2.2.1
                first | exact e | (rw [show (addRule z.x.d xr.d false false).outs.length = z.x.d.outs.length + 1 by simp [addRule]]; exact e)
              · simp only [Bool.or_eq_false_iff, Bool.and_eq_false_iff, decide_eq_false_iff_not] at h2
                exact (hF1 b (by omega)).trans (HSTG2.out.2 b h1 (by omega) (by omega))
              · have e := hFin.2.2.2.2.2
                first | exact e | (rw [show (addRule z.x.d xr.d false false).ins.length = z.x.d.ins.length + 1 by simp [addRule]]; exact e)
              · simp only [Bool.or_eq_false_iff, decide_eq_false_iff_not] at h2
                exact hF1 b h2.1
            · have hp := (right_zero HR.out).2 y.d (by rw [← HCY.out]; exact List.mem_map.2 ⟨y, hy, rfl⟩)
              simp only [polOk, Bool.and_eq_true, rulesOk, few, btw, decide_eq_true_eq, Bool.or_eq_true] at hp
              omega
          have HIM2 := hid (show av = true → (may A 1 x x.src x.dst && may A 2 x x.dst x.src) = true from fun h => by
            rw [HAV.out, Bool.and_eq_true] at h
            rw [hA, Bool.and_eq_true, hy']
            exact ⟨more_may (y' := addRule z.x.d xr.d false false) HDJ.out (fun _ _ => rfl) (fun _ _ _ hl => addRule_lets hl) h.1, more_may (y' := addRule z.x.d xr.d false false) HDJ.out (fun _ _ => rfl) (fun _ _ _ hl => addRule_lets hl) h.2⟩)
          have EA := hid (show A.pods = C.pods by rw [hA])
          have EB := hid (show A.pols = C.pols.set j y' by rw [hA])
          have HRP9 := hid hrp
          have HRQ9 := hid hrq
          clear hF1 hFs hFin hFo hFB hrp hrq hy' hA
          refine (keepAllowed_len A x a (some ⟨gp, 0, none⟩) n n' C.pods.length C.pols.length F (by rw [EA.out]) (by rw [EB.out, List.length_set]) (by rw [EA.out]; exact HRP9.out) (by rw [EB.out]; exact HRQ9.out) (by rw [EA.out]; exact HN.out) (by rw [hrA]) HPX.out).mono ?_
          generalize (may A 1 x x.src x.dst && may A 2 x x.dst x.src) = b2 at HIM2
          rintro e wF ⟨rfl, hbF⟩
          have HFIN := hid (Ext.trans HFB.out hbF)
          clear hbF hrA
          have hcase2 : b2 = true ∨ (b2 = false ∧ av = false) := by
            cases b2
            · refine .inr ⟨rfl, ?_⟩
              cases hv : av
              · rfl
              · exact absurd (HIM2.out hv) (by decide)
            · exact .inl rfl
          rcases hcase2 with rfl | ⟨rfl, hav0⟩
          · go_wp2
            go_ret
            exact ⟨by simp, HFIN.out⟩
          · first
              | (exfalso; have h1 := hav1; rw [hav0] at h1; cases h1; done)
              | (go_wp2
                 go_ret
                 exact ⟨by simp, HFIN.out⟩)
end Go.Proofs.YtmkjlhplgcifiaaGreat
