/-
  palisadekeep: the law Faithful, walked, whatever the raw cluster and packet.
-/
import Derived.Test.YtmkjlhplgcifiaaGreatQ26
import Derived.Test.YtmkjlhplgcifiaaGreatQ27
import Derived.Test.YtmkjlhplgcifiaaGreatQ28
import Derived.Deep.CutRange
import Derived.Deep.CutBlock
namespace Go.Proofs.YtmkjlhplgcifiaaGreat
open Go.ChangeShapes Go.WideShapes Go.ChangeAt Go.RowKit
attribute [local simp] World.cell?_grow
attribute [local go_sem] World.cell?_grow
attribute [local simp] World.cell?_alloc_there
attribute [local go_sem] World.cell?_alloc_there
attribute [local go_sem] eqg_blk std_blk eqg_pod std_pod eqg_sel std_sel eqg_prt std_prt
attribute [local go_sem ↓] eql_blk eql_sel neq_sel eql_prt eql_pod
attribute [local go_sem ↓] met_in1 met_in2 met_re1 met_re2
attribute [local go_sem ↓] met_has1 met_has2
attribute [local go_sem ↓] met_bl1 met_bl2
attribute [local go_sem] eqg_row std_row
attribute [local go_sem ↓] neq_row
set_option linter.unusedVariables false
set_option linter.unusedSimpArgs false

theorem CluUp.read {B : Nat} {w' : World} {v v' : Value} {c : DClu} (h : CluUp B w' v v' c) :
    ∃ a n a' n', v = .slice a (mkClu c).pods.length n ∧ v' = .slice a' (mkClu c).pols.length n' ∧ (mkClu c).pods.length ≤ n ∧ rdPods w'.heap.size w' a (mkClu c).pods ∧ rdPols w'.heap.size w' a' (mkClu c).pols := by
  obtain ⟨m, ys, hm, hup, hv, huq, hys⟩ := h
  have hl := (mkPods_good c.pods).1
  have hyl : ys.length ≤ 4 := by have h := congrArg List.length hys; simp at h; omega
  obtain ⟨a, n, rfl, hn, hr⟩ := upPods_done hup (by omega)
  obtain ⟨a', n', rfl, hn', hr'⟩ := upPols_done huq (by omega)
  rw [hys] at hr' ⊢
  exact ⟨a, n, a', n', rfl, rfl, hn, rdPods.sub (Sub.show _ _) (Nat.le_refl _) hr, rdPols.sub (Sub.show _ _) (Nat.le_refl _) hr'⟩
/-- what the tables of the first hosts say by a way -/
def allTo (c : DClu) (k : DPkt) (y h : Nat) : Bool := (List.range h).all fun i => decd c (i : Int) (y : Int) k
def preTo (c : DClu) (k : DPkt) (y : Nat) : Bool := if y = 1 then true else if y = 2 then allTo c k 1 4 else allTo c k 1 4 && allTo c k 2 4
theorem allTo_succ (c : DClu) (k : DPkt) (y h : Nat) : allTo c k y (h + 1) = (allTo c k y h && decd c (h : Int) (y : Int) k) := by
  simp [allTo, List.range_succ]
theorem allTo_four {c : DClu} (hc : cluOk c) (k : DPkt) (y : Nat) : allTo c k y 4 = may c y k (nearOf y k) (farOf y k) := by
  rw [← decd_all hc k y, allTo_succ, allTo_succ, allTo_succ, allTo_succ]; rfl
theorem preTo_three {c : DClu} (hc : cluOk c) (k : DPkt) : preTo c k 3 = (may c 1 k k.src k.dst && may c 2 k k.dst k.src) := by
  show (allTo c k 1 4 && allTo c k 2 4) = _
  rw [allTo_four hc, allTo_four hc]; rfl
theorem preTo_succ (c : DClu) (k : DPkt) (y : Nat) (h1 : 1 ≤ y) (h2 : y ≤ 2) : preTo c k (y + 1) = (preTo c k y && allTo c k y 4) := by
  rcases (show y = 1 ∨ y = 2 by omega) with rfl | rfl
  · simp [preTo]
  · simp [preTo]
theorem find_facts {α : Type} {f : α → Bool} {l : List α} {n : Nat} (h : l.findIdx? f = some n) : n < l.length ∧ (∀ j x, j < n → l[j]? = some x → f x = false) ∧ ∀ x, l[n]? = some x → f x = true := by
  obtain ⟨h1, h2, h3⟩ := List.findIdx?_eq_some_iff_getElem.1 h
  refine ⟨h1, fun j x hj hx => ?_, fun x hx => ?_⟩
  · obtain ⟨hl, rfl⟩ := List.getElem?_eq_some_iff.1 hx
    simpa using h3 j hj
  · obtain ⟨hl, rfl⟩ := List.getElem?_eq_some_iff.1 hx
    exact h2

set_option maxRecDepth 100000 in
set_option maxHeartbeats 4000000 in
theorem faithful_any (c : DClu) (k : DPkt) (pa qa : Option Addr) (pc qc : Nat) (w : World) (hp : rdPods w.heap.size w pa c.pods) (hq : rdPols w.heap.size w qa c.pols) (hi : iClu c) (hk : iPkt k) :
    Calls Tryz.prog 5 #[.agg #[.slice pa c.pods.length pc, .slice qa c.pols.length qc], .agg #[.int .i64 k.src, .int .i64 k.dst, .int .i64 k.proto, .int .i64 k.port]] w fun e w' => e = .returned (.bool true) ∧ Below w.heap.size w w' := by
  have HP := hid hp
  have HQ := hid hq
  have HI := hid hi
  obtain ⟨k0, k1, k2, k3⟩ := hk
  clear hp hq hi
  go_enter Tryz.func5, Tryz.ntmps5
  go_wp2_with fail
  generalize hW : (w.alloc (Obj.cells #[.slice pa c.pods.length pc, .slice qa c.pols.length qc] 28)).alloc (Obj.cells #[.int .i64 k.src, .int .i64 k.dst, .int .i64 k.proto, .int .i64 k.port] 30) = W
  have hsW : W.heap.size = w.heap.size + 2 := by rw [← hW]; simp
  have HBW := hid (show Below w.heap.size w W from by rw [← hW]; exact (by repeat (first | exact Below.refl _ _ | assumption | apply Ext.alloc | apply Ext.drewN | apply Ext.drew | refine Ext.trans ?_ (by assumption))))
  have c0 : W.cell? ⟨w.heap.size, 0, none⟩ = some (.slice pa c.pods.length pc) := by rw [← hW]; simp [go_sem]
  have c1 : W.cell? ⟨w.heap.size, 1, none⟩ = some (.slice qa c.pols.length qc) := by rw [← hW]; simp [go_sem]
  have p0 : W.cell? ⟨w.heap.size + 1, 0, none⟩ = some (.int .i64 k.src) := by rw [← hW]; simp [go_sem]
  have p1 : W.cell? ⟨w.heap.size + 1, 1, none⟩ = some (.int .i64 k.dst) := by rw [← hW]; simp [go_sem]
  have p2 : W.cell? ⟨w.heap.size + 1, 2, none⟩ = some (.int .i64 k.proto) := by rw [← hW]; simp [go_sem]
  have p3 : W.cell? ⟨w.heap.size + 1, 3, none⟩ = some (.int .i64 k.port) := by rw [← hW]; simp [go_sem]
  clear hW
  refine (awake_any W).mono ?_
  rintro e wA ⟨rfl, hbA⟩
  have HBA := hid (Ext.trans HBW.out hbA)
  have hsA := hbA.size
  have d0 := cell_to c0 hbA
  have d1 := cell_to c1 hbA
  have e0 := cell_to p0 hbA
  have e1 := cell_to p1 hbA
  have e2 := cell_to p2 hbA
  have e3 := cell_to p3 hbA
  clear hbA c0 c1 p0 p1 p2 p3
  go_wp2_with fail
  refine (mkClu_any c pa qa pc qc wA (rdPods.to HP.out HBA.out) (rdPols.to HQ.out HBA.out) HI.out).mono ?_
  rintro e wB ⟨⟨v, v', rfl, hcu⟩, hbB⟩
  obtain ⟨a, n, a', n', rfl, rfl, hn, hrp, hrq⟩ := hcu.read
  have hR := mkClu_right c
  have hips := pods_ips (mkPods_good c.pods)
  obtain ⟨C, hC⟩ : ∃ C, C = mkClu c := ⟨_, rfl⟩
  have hips : ∀ p ∈ (mkClu c).pods, 0 ≤ p.ip ∧ p.ip ≤ 4294967295 := hips
  have hpl : (mkClu c).pods.length ≤ 8 := (mkPods_good c.pods).1
  have hql : (mkClu c).pols.length ≤ 4 := by simp [mkClu]; omega
  rw [← hC] at hn hrp hrq hR hips hpl hql
  simp only [← hC]
  have HR := hid (show (right C).1 = 0 by rw [hR])
  have HC := hid (right_zero HR.out)
  have HIP := hid hips
  have HRP := hid hrp
  have HRQ := hid hrq
  have HBB := hid (Ext.trans HBA.out hbB)
  have hsB := hbB.size
  have f0 := cell_to e0 hbB
  have f1 := cell_to e1 hbB
  have f2 := cell_to e2 hbB
  have f3 := cell_to e3 hbB
  clear hbB hcu d0 d1 e0 e1 e2 e3 hR hips hrp hrq hC
  go_wp2_with fail
  generalize hX : wB.alloc (Obj.cells #[.slice a C.pods.length n, .slice a' C.pols.length n'] 28) = X
  have hsX : X.heap.size = wB.heap.size + 1 := by rw [← hX]; simp
  have HBX := hid (show Below wB.heap.size wB X from by rw [← hX]; exact (by repeat (first | exact Below.refl _ _ | assumption | apply Ext.alloc | apply Ext.drewN | apply Ext.drew | refine Ext.trans ?_ (by assumption))))
  have x0 : X.cell? ⟨wB.heap.size, 0, none⟩ = some (.slice a C.pods.length n) := by rw [← hX]; simp [go_sem]
  have x1 : X.cell? ⟨wB.heap.size, 1, none⟩ = some (.slice a' C.pols.length n') := by rw [← hX]; simp [go_sem]
  clear hX f0 f1 f2 f3
  refine (mkPkt_any C.pods k a a' n C.pols.length n' X (rdPods.to HRP.out HBX.out) HIP.out k0 k1 k2 k3).mono ?_
  rintro e wC ⟨⟨x, rfl, hx⟩, hbC⟩
  have HX := hid hx
  have hsC := hbC.size
  have y0 := cell_to x0 hbC
  have y1 := cell_to x1 hbC
  have HBC := hid (Ext.trans HBX.out hbC)
  clear hbC x0 x1 hx k0 k1 k2 k3
  go_wp2_with fail
  generalize hY : wC.alloc (Obj.cells #[.int .i64 x.src, .int .i64 x.dst, .int .i64 x.proto, .int .i64 x.port] 30) = Y
  have hsY : Y.heap.size = wC.heap.size + 1 := by rw [← hY]; simp
  have hbY : Below wC.heap.size wC Y := by rw [← hY]; exact (by repeat (first | exact Below.refl _ _ | assumption | apply Ext.alloc | apply Ext.drewN | apply Ext.drew | refine Ext.trans ?_ (by assumption)))
  have q0 : Y.cell? ⟨wC.heap.size, 0, none⟩ = some (.int .i64 x.src) := by rw [← hY]; simp [go_sem]
  have q1 : Y.cell? ⟨wC.heap.size, 1, none⟩ = some (.int .i64 x.dst) := by rw [← hY]; simp [go_sem]
  have q2 : Y.cell? ⟨wC.heap.size, 2, none⟩ = some (.int .i64 x.proto) := by rw [← hY]; simp [go_sem]
  have q3 : Y.cell? ⟨wC.heap.size, 3, none⟩ = some (.int .i64 x.port) := by rw [← hY]; simp [go_sem]
  have z0 := cell_to y0 hbY
  have z1 := cell_to y1 hbY
  have HBY := hid (Ext.trans HBC.out hbY)
  clear hY hbY y0 y1
  refine (keepAllowed_any C x a a' n n' Y (rdPods.to HRP.out HBY.out) (rdPols.to HRQ.out HBY.out) hn HR.out HX.out).mono ?_
  obtain ⟨want, hwant⟩ : ∃ want, want = (may C 1 x x.src x.dst && may C 2 x x.dst x.src) := ⟨_, rfl⟩
  rw [← hwant]
  have HWANT := hid hwant
  clear hwant
  rintro e wD ⟨rfl, hbD⟩
  have hsD := hbD.size
  have r0 := cell_to q0 hbD
  have r1 := cell_to q1 hbD
  have r2 := cell_to q2 hbD
  have r3 := cell_to q3 hbD
  have s0 := cell_to z0 hbD
  have s1 := cell_to z1 hbD
  have HBD := hid (Ext.trans HBY.out hbD)
  clear hbD q0 q1 q2 q3 z0 z1
  go_wp2_with fail
  refine (compile_ok C a a' n n' wD (rdPods.to HRP.out HBD.out) (rdPols.to HRQ.out HBD.out) hn HR.out).mono ?_
  rintro e wE ⟨⟨tb, rfl, htb, u0, u1, u2, hT, hTC⟩, hbE⟩
  obtain ⟨T, hTT⟩ := (TabC.at hTC hT).as
  have HT := hid hTT
  have hsE := hbE.size
  have t0 := cell_to r0 hbE
  have t1 := cell_to r1 hbE
  have t2 := cell_to r2 hbE
  have t3 := cell_to r3 hbE
  have HBE := hid (Ext.trans HBB.out (Ext.trans HBD.out hbE))
  clear hbE hT hTC hTT r0 r1 r2 r3 s0 s1 htb
  go_wp2_with fail
  go_loopw [13, 14] (fun g y wr => ∃ (i : Nat), 1 ≤ i ∧ i ≤ 3 ∧ y = .int .i64 i ∧ g = .bool (preTo C x i) ∧ Below wE.heap.size wE wr) (fun _ y _ => 3 - (intOf y).toNat)
  case atStart => exact ⟨1, Nat.le_refl _, by decide, rfl, rfl, Below.refl _ _⟩
  case round =>
    obtain ⟨y, hy1, hy3, rfl, rfl, hbr⟩ := hrel
    obtain ⟨wF, hwF⟩ : ∃ wF, wF = wr := ⟨_, rfl⟩
    subst hwF
    obtain ⟨g, hg⟩ : ∃ g, g = preTo C x y := ⟨_, rfl⟩
    rw [← hg]
    have HG := hid hg
    have HBF := hid hbr
    have hsF := hbr.size
    have v0 := cell_to t0 hbr
    have v1 := cell_to t1 hbr
    have v2 := cell_to t2 hbr
    have v3 := cell_to t3 hbr
    clear hg hbr
    by_cases hy : y ≤ 2
    · have zy : (y : Int) ≤ 2 := by omega
      go_wp2_with fail
      go_loopw [13, 15] (fun g' hv wr => ∃ (h : Nat), h ≤ 4 ∧ hv = .int .i64 h ∧ g' = .bool (g && allTo C x y h) ∧ Below wF.heap.size wF wr) (fun _ hv _ => 4 - (intOf hv).toNat)
      case atStart => exact ⟨0, by decide, rfl, by simp [allTo], Below.refl _ _⟩
      case round =>
        obtain ⟨h, hh, rfl, rfl, hbr⟩ := hrel
        obtain ⟨wG, hwG⟩ : ∃ wG, wG = wr := ⟨_, rfl⟩
        subst hwG
        have HBG := hid hbr
        have HBG2 := hid (Ext.trans HBF.out hbr)
        have hsG := hbr.size
        have a0 := cell_to v0 hbr
        have a1 := cell_to v1 hbr
        have a2 := cell_to v2 hbr
        have a3 := cell_to v3 hbr
        obtain ⟨g', hg'⟩ : ∃ g', g' = (g && allTo C x y h) := ⟨_, rfl⟩
        rw [← hg']
        have HG' := hid hg'
        clear hbr hg'
        by_cases hh4 : h < 4
        · have zh : (h : Int) < 4 := by omega
          have hm : ((h : Int), (y : Int)) ∈ plist := (plist_mem _ _).2 ⟨⟨by omega, by omega⟩, by omega⟩
          obtain ⟨L, hL, hTR⟩ := HT.out.tab (h : Int) (y : Int) hm
          have hLl := tab_len HC.out hpl hql hTR
          have hLok := tab_ok HC.out hTR
          rw [← hL] at hLl hLok
          have hrows := rows_any C T tb h y wG (HT.out.to HBG2.out) hm
          have hdec := fun wH (hb : Below wG.heap.size wG wH) => decide_any C T tb h y x wH ((HT.out.to HBG2.out).to hb) hm HX.out HC.out
          obtain ⟨d, hd⟩ : ∃ d, d = decd C (h : Int) (y : Int) x := ⟨_, rfl⟩
          have hsucc := allTo_succ C x y h
          rw [← hd] at hsucc
          simp only [← hd] at hdec
          clear hL hTR
          generalize T ((h : Int), (y : Int)) = rows at hLl hLok hrows hdec
          have HLOK := hid hLok
          have HROWS := hid hrows
          have HDEC := hid hdec
          have HSUCC := hid hsucc
          clear hLok hrows hdec hsucc hd hm
          go_wp2_with fail
          refine HROWS.out.mono ?_
          rintro e wH ⟨⟨v, rfl, hown⟩, hbH⟩
          obtain ⟨ra, rc, rfl, hrc, hrr⟩ := own_rows hown (by omega)
          have HRR := hid hrr
          have hsH := hbH.size
          have b0 := cell_to a0 hbH
          have b1 := cell_to a1 hbH
          have b2 := cell_to a2 hbH
          have b3 := cell_to a3 hbH
          have HBH := hid hbH
          clear hown hrr hbH a0 a1 a2 a3
          go_wp2_with fail
          refine (HDEC.out wH HBH.out).mono ?_
          rintro e wI ⟨⟨m, r, rfl, hfi, hr, hal⟩, hbI⟩
          obtain ⟨hml, hno, hyes⟩ := find_facts hfi
          have HNO := hid hno
          have HYES := hid (hyes r hr)
          have HRM := hid hr
          have hsI := hbI.size
          have c0 := cell_to b0 hbI
          have c1 := cell_to b1 hbI
          have c2 := cell_to b2 hbI
          have c3 := cell_to b3 hbI
          have HRI := hid (rdRows.to HRR.out hbI)
          have HBI := hid (Ext.trans HBH.out hbI)
          have HAL := hid hal
          have zm : (m : Int) < (rows.length : Int) := by omega
          have zm2 : ¬ (rows.length : Int) ≤ (m : Int) := by omega
          clear hfi hno hyes hr hbI hal b0 b1 b2 b3
          go_wp2_with fail
          go_loopw [21] (fun iv wr => ∃ (i : Nat), i ≤ m + 1 ∧ iv = .int .i64 i ∧ Below wI.heap.size wI wr) (fun iv _ => m + 1 - (intOf iv).toNat)
          case atStart => exact ⟨0, Nat.zero_le _, rfl, Below.refl _ _⟩
          case round =>
            obtain ⟨i, hi, rfl, hbr⟩ := hrel
            obtain ⟨wJ, hwJ⟩ : ∃ wJ, wJ = wr := ⟨_, rfl⟩
            subst hwJ
            have hsJ := hbr.size
            have d0 := cell_to c0 hbr
            have d1 := cell_to c1 hbr
            have d2 := cell_to c2 hbr
            have d3 := cell_to c3 hbr
            have HBJ := hid hbr
            have HRJ := hid (rdRows.to HRI.out hbr)
            clear hbr
            by_cases him : i ≤ m
            · have zi : (i : Int) ≤ (m : Int) := by omega
              have zi2 : (i : Int) < (rows.length : Int) := by omega
              obtain ⟨r2, hr2⟩ : ∃ r2, rows[i]? = some r2 := ⟨rows[i]'(by omega), by simp⟩
              obtain ⟨b, off, rfl, hb, e0, e1, e2, e3, e4, e5, e6, e7⟩ := HRJ.out.2 i r2 hr2
              have HOK := hid (HLOK.out r2 (List.mem_of_getElem? hr2))
              have HF := hid (keepFits_any r2 x)
              have hbJ := HBJ.out
              by_cases hie : i = m
              · have hrr : r2 = r := by have h := HRM.out; rw [← hie, hr2] at h; exact Option.some.inj h
                have hfit : rowFits x r2 = true := by rw [hrr]; exact HYES.out
                have hq : ((i : Int) == (m : Int)) = true := by simp [hie]
                clear hr2 hrr hie
                go_wp2
                refine wp_region_grow (by kernel_rfl) (by kernel_rfl) ?_
                repeat (go_big_quiet_step (first
                  | (go_at_call 19; exact Calls.grow_bool hfit (HF.out _ HOK.out HX.out))))
                refine wpQuiet_nil ?_
                intro w1 hb1
                obtain ⟨hc1, hf1⟩ := bcell hb1
                have hz1 := hb_lt hb1
                go_wp2
                exact ⟨⟨i + 1, by omega, by go_num, (by repeat (first | exact Below.refl _ _ | assumption | apply Ext.alloc | apply Ext.drewN | apply Ext.drew | refine Ext.trans ?_ (by assumption)))⟩, by simp [intOf]; omega⟩
              · have hfit : rowFits x r2 = false := HNO.out i r2 (by omega) hr2
                have hq : ((i : Int) == (m : Int)) = false := by simp; omega
                clear hr2 hie
                go_wp2
                refine wp_region_grow (by kernel_rfl) (by kernel_rfl) ?_
                repeat (go_big_quiet_step (first
                  | (go_at_call 19; exact Calls.grow_bool hfit (HF.out _ HOK.out HX.out))))
                refine wpQuiet_nil ?_
                intro w1 hb1
                obtain ⟨hc1, hf1⟩ := bcell hb1
                have hz1 := hb_lt hb1
                go_wp2
                exact ⟨⟨i + 1, by omega, by go_num, (by repeat (first | exact Below.refl _ _ | assumption | apply Ext.alloc | apply Ext.drewN | apply Ext.drew | refine Ext.trans ?_ (by assumption)))⟩, by simp [intOf]; omega⟩
            · have zi : ¬ (i : Int) ≤ (m : Int) := by omega
              obtain ⟨b, off, rfl, hb, e0, e1, e2, e3, e4, e5, e6, e7⟩ := HRJ.out.2 m r HRM.out
              rw [HAL.out] at e7
              clear e0 e1 e2 e3 e4 e5 e6
              cases g'
              · go_wp2
                refine ⟨⟨h + 1, by omega, by go_num, by rw [HSUCC.out, ← Bool.and_assoc, ← HG'.out]; rfl, Ext.trans HBG.out (Ext.trans HBI.out HBJ.out)⟩, by simp [intOf]; omega⟩
              · go_wp2
                refine ⟨⟨h + 1, by omega, by go_num, by rw [HSUCC.out, ← Bool.and_assoc, ← HG'.out]; rfl, Ext.trans HBG.out (Ext.trans HBI.out HBJ.out)⟩, by simp [intOf]; omega⟩
        · have zh : ¬ (h : Int) < 4 := by omega
          have hh : h = 4 := by omega
          subst hh
          have HPRE := hid (show preTo C x (y + 1) = g' by rw [preTo_succ C x y hy1 hy, ← HG.out, HG'.out])
          go_wp2
          refine ⟨⟨y + 1, by omega, by omega, by go_num, by rw [HPRE.out], HBG2.out⟩, by simp [intOf]; omega⟩
    · have zy : ¬ (y : Int) ≤ 2 := by omega
      have hy : y = 3 := by omega
      subst hy
      have hgw : g = want := by rw [HG.out, preTo_three HC.out, HWANT.out]
      subst hgw
      go_wp2_with (go_at_call 20; go_must (refine (admits_any C T tb x wF (HT.out.to HBF.out) HX.out HC.out).mono ?_); rw [← HWANT.out]; rintro e wG ⟨rfl, hbG⟩; have HBG := hid (Ext.trans HBF.out hbG); clear hbG)
      go_ret
      exact ⟨by simp, Ext.trans HBE.out HBG.out⟩
end Go.Proofs.YtmkjlhplgcifiaaGreat
