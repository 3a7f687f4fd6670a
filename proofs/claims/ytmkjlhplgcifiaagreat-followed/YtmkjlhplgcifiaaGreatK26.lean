/-
  palisadekeep: without, walked: nothing to drop; whatever there is.
  palisadekeep: at, has, fits, packet, allowed.
-/
import Derived.Test.YtmkjlhplgcifiaaGreatK25
import Derived.Test.YtmkjlhplgcifiaaGreatK08
import Derived.Test.YtmkjlhplgcifiaaGreatK18
import Derived.Test.YtmkjlhplgcifiaaGreatK13
import Derived.Deep.RegionHeld3
namespace Go.Proofs.YtmkjlhplgcifiaaGreat
open Go.ChangeShapes Go.WideShapes Go.ChangeAt Go.RowKit
attribute [local simp] World.cell?_grow
attribute [local go_sem] World.cell?_grow
attribute [local simp] World.cell?_alloc_there
attribute [local go_sem] World.cell?_alloc_there
attribute [local go_sem] eqg_blk std_blk eqg_pod std_pod eqg_sel std_sel eqg_prt std_prt
attribute [local go_sem ↓] eql_blk eql_sel neq_sel eql_prt eql_pod
attribute [local go_sem ↓] met_in1 met_in2 met_re1 met_re2
attribute [local go_sem ↓] met_has1 met_has2
attribute [local go_sem ↓] met_bl1 met_bl2
attribute [local go_sem] eqg_row std_row
attribute [local go_sem ↓] neq_row
set_option linter.unusedVariables false
set_option linter.unusedSimpArgs false
set_option maxRecDepth 100000 in
set_option maxHeartbeats 4000000 in
theorem without_none (C : DClu) (k : Nat) (raw : Int) (tb : Nat) (G : Nat → Bool) (pa qa : Option Addr) (pc qc : Nat) (u0 u1 u2 : Value) (w : World) (hp : rdPods w.heap.size (hide w G) pa C.pods) (hq : rdPols w.heap.size (hide w G) qa C.pols) (hpc : C.pods.length ≤ pc) (hqc : C.pols.length ≤ qc) (ht : w.heap[tb]? = some (.cells #[u0, u1, u2] 94 (0, 0))) (hT : TabC w.heap.size (hide w G) u0 u1 u2 C) (hr : (right C).1 = 0) (hGt : G tb = true) (hGl : ∀ b, G b = true → b < w.heap.size) (h0 : ¬ 0 ≤ raw) (hn : C.pols.length = 0) :
    Calls Tryz.prog 26 #[.agg #[.slice pa C.pods.length pc, .slice qa C.pols.length qc], .int .i64 raw, .pointer (some ⟨tb, 0, none⟩)] w (FwOk G tb C w) := by
  obtain ⟨l1, l2⟩ := right_lens hr
  have HTL := hid (show tb < w.heap.size from (Array.getElem?_eq_some_iff.1 ht).1)
  have HDROP := hid (show ∀ Z, Below w.heap.size w Z → Calls Tryz.prog 44 #[.pointer (some ⟨tb, 0, none⟩), .int .i64 0] Z fun e w' => e = .returned (.int .i64 6) ∧ Below Z.heap.size Z w' from fun Z hb => by
    obtain ⟨r, vs, ta, tq, tpc, tqc, rfl, rfl, rfl, _, h5, h6, rp, rq, _⟩ := hT
    exact dropPol_none 0 tb _ C ta tq tpc tqc Z ((hb.block tb (Array.getElem?_eq_some_iff.1 ht).1).trans ht) (rdPods.sub (sub_in hb) hb.size rp) (rdPols.sub (sub_in hb) hb.size rq) h5 h6 hr (by omega))
  have HP := hid hp
  have HQ := hid hq
  have HT := hid ht
  have HTC := hid hT
  have HGL := hid hGl
  have HN := hid hn
  have z2 : (C.pols.length : Int) = 0 := by omega
  obtain ⟨n, hnn⟩ : ∃ n, n = C.pols.length := ⟨_, rfl⟩
  rw [← hnn] at z2 ⊢
  have HNN := hid hnn
  clear hp hq ht hT hr hGt hGl hn hnn
  go_enter Tryz.func26, Tryz.ntmps26
  go_wp2_with fail
  generalize hW : (((w.alloc (.cells #[.slice pa C.pods.length pc, .slice qa n qc] 28)).alloc (.cells #[.slice none 0 0, .slice none 0 0] 28)).alloc (.cells #[.slice none 0 0, .slice none 0 0] 28)) = W
  have HSW := hid (show W.heap.size = w.heap.size + 3 by rw [← hW]; simp)
  have HBW := hid (show Below w.heap.size w W from by rw [← hW]; exact (by repeat (first | exact Below.refl _ _ | assumption | apply Ext.alloc | apply Ext.drewN | apply Ext.drew | refine Ext.trans ?_ (by assumption))))
  have KC := hid (show W.heap[w.heap.size]? = some (.cells #[.slice pa C.pods.length pc, .slice qa n qc] 28 (0, 0)) from by rw [← hW]; exact (Below.heap_alloc _ _ _ (by simp only [World.size_alloc]; omega)).trans ((Below.heap_alloc _ _ _ (by simp)).trans (new_heap _ _)))
  have KR := hid (show W.heap[w.heap.size + 1]? = some (.cells #[.slice none 0 0, .slice none 0 0] 28 (0, 0)) from by
    rw [← hW]
    have := new_heap (w.alloc (.cells #[.slice pa C.pods.length pc, .slice qa n qc] 28)) (.cells #[.slice none 0 0, .slice none 0 0] 28)
    simp only [World.size_alloc] at this
    exact (Below.heap_alloc _ _ _ (by simp)).trans this)
  clear hW
  refine (HDROP.out W HBW.out).mono ?_
  rintro e w6 ⟨rfl, hb6⟩
  have KC6 := (hb6.block w.heap.size (by have := HSW.out; omega)).trans KC.out
  have KR6 := hid ((hb6.block (w.heap.size + 1) (by have := HSW.out; omega)).trans KR.out)
  have y0 : w6.cell? ⟨w.heap.size, 0, none⟩ = some (.slice pa C.pods.length pc) := (blk_cell KC6 0).trans rfl
  have y1 : w6.cell? ⟨w.heap.size, 1, none⟩ = some (.slice qa n qc) := (blk_cell KC6 1).trans rfl
  have r0 : w6.cell? ⟨w.heap.size + 1, 0, none⟩ = some (.slice none 0 0) := (blk_cell KR6.out 0).trans rfl
  have r1 : w6.cell? ⟨w.heap.size + 1, 1, none⟩ = some (.slice none 0 0) := (blk_cell KR6.out 1).trans rfl
  have rf := blk_frozen KR6.out
  have HB6 := hid (Ext.trans HBW.out hb6)
  clear hb6 KC6
  go_wp2
  have HBF := hid (show Below w.heap.size w ((w6.setCell ⟨w.heap.size + 1, 0, none⟩ (.slice pa C.pods.length pc)).setCell ⟨w.heap.size + 1, 1, none⟩ (.slice qa n qc)) from (HB6.out.setCell (by show w.heap.size ≤ w.heap.size + 1; omega) _).setCell (by show w.heap.size ≤ w.heap.size + 1; omega) _)
  have KRF := (set_blk (set_blk KR6.out 0 (.slice pa C.pods.length pc)) 1 (.slice qa n qc))
  have g0 := (blk_cell KRF 0).trans rfl
  have g1 := (blk_cell KRF 1).trans rfl
  generalize (w6.setCell ⟨w.heap.size + 1, 0, none⟩ (.slice pa C.pods.length pc)).setCell ⟨w.heap.size + 1, 1, none⟩ (.slice qa n qc) = F at HBF g0 g1 ⊢
  refine bodyPost_ret (v := .tuple #[.agg #[.slice pa C.pods.length pc, .slice qa n qc], .bool true]) (by simp [results, Tryz.results26, go_sem, g0, g1]) rfl ?_
  have hb := HBF.out
  have hs : Sub (hide w G) (hide F G) := Sub.grow hb
  exact ⟨pa, pc, qa, qc, u0, u1, u2, by rw [HNN.out], ⟨hpc, hqc⟩, rdPods.sub hs hb.size HP.out, rdPols.sub hs hb.size HQ.out, (hb.block tb HTL.out).trans HT.out, HTC.out.sub (BSub.hide fun b hl hG => ⟨hG, hb.block b hl⟩) hb.size, ⟨hb.os, hb.tape, hb.output, hb.size, fun b hl _ => hb.block b hl⟩⟩
set_option maxRecDepth 100000 in
set_option maxHeartbeats 4000000 in
theorem without_nil (C : DClu) (k : Nat) (raw : Int) (tb : Nat) (G : Nat → Bool) (pa qa : Option Addr) (pc qc : Nat) (u0 u1 u2 : Value) (w : World) (hp : rdPods w.heap.size (hide w G) pa C.pods) (hq : rdPols w.heap.size (hide w G) qa C.pols) (hpc : C.pods.length ≤ pc) (hqc : C.pols.length ≤ qc) (ht : w.heap[tb]? = some (.cells #[u0, u1, u2] 94 (0, 0))) (hT : TabC w.heap.size (hide w G) u0 u1 u2 C) (hr : (right C).1 = 0) (hGt : G tb = true) (hGl : ∀ b, G b = true → b < w.heap.size) (h0 : 0 ≤ raw) (hz : C.pods.length = 0) (hn : C.pols.length = 0) :
    Calls Tryz.prog 26 #[.agg #[.slice pa C.pods.length pc, .slice qa C.pols.length qc], .int .i64 raw, .pointer (some ⟨tb, 0, none⟩)] w (FwOk G tb C w) := by
  obtain ⟨l1, l2⟩ := right_lens hr
  have z1 : ¬ 0 < (C.pods.length : Int) := by omega
  clear hz
  have HTL := hid (show tb < w.heap.size from (Array.getElem?_eq_some_iff.1 ht).1)
  have HDROP := hid (show ∀ Z, Below w.heap.size w Z → Calls Tryz.prog 44 #[.pointer (some ⟨tb, 0, none⟩), .int .i64 0] Z fun e w' => e = .returned (.int .i64 6) ∧ Below Z.heap.size Z w' from fun Z hb => by
    obtain ⟨r, vs, ta, tq, tpc, tqc, rfl, rfl, rfl, _, h5, h6, rp, rq, _⟩ := hT
    exact dropPol_none 0 tb _ C ta tq tpc tqc Z ((hb.block tb (Array.getElem?_eq_some_iff.1 ht).1).trans ht) (rdPods.sub (sub_in hb) hb.size rp) (rdPols.sub (sub_in hb) hb.size rq) h5 h6 hr (by omega))
  have HP := hid hp
  have HQ := hid hq
  have HT := hid ht
  have HTC := hid hT
  have HGL := hid hGl
  have HN := hid hn
  have z2 : (C.pols.length : Int) = 0 := by omega
  obtain ⟨n, hnn⟩ : ∃ n, n = C.pols.length := ⟨_, rfl⟩
  rw [← hnn] at z2 ⊢
  have HNN := hid hnn
  clear hp hq ht hT hr hGt hGl hn hnn
  go_enter Tryz.func26, Tryz.ntmps26
  go_wp2_with fail
  generalize hW : (((w.alloc (.cells #[.slice pa C.pods.length pc, .slice qa n qc] 28)).alloc (.cells #[.slice none 0 0, .slice none 0 0] 28)).alloc (.cells #[.slice none 0 0, .slice none 0 0] 28)) = W
  have HSW := hid (show W.heap.size = w.heap.size + 3 by rw [← hW]; simp)
  have HBW := hid (show Below w.heap.size w W from by rw [← hW]; exact (by repeat (first | exact Below.refl _ _ | assumption | apply Ext.alloc | apply Ext.drewN | apply Ext.drew | refine Ext.trans ?_ (by assumption))))
  have KC := hid (show W.heap[w.heap.size]? = some (.cells #[.slice pa C.pods.length pc, .slice qa n qc] 28 (0, 0)) from by rw [← hW]; exact (Below.heap_alloc _ _ _ (by simp only [World.size_alloc]; omega)).trans ((Below.heap_alloc _ _ _ (by simp)).trans (new_heap _ _)))
  have KR := hid (show W.heap[w.heap.size + 1]? = some (.cells #[.slice none 0 0, .slice none 0 0] 28 (0, 0)) from by
    rw [← hW]
    have := new_heap (w.alloc (.cells #[.slice pa C.pods.length pc, .slice qa n qc] 28)) (.cells #[.slice none 0 0, .slice none 0 0] 28)
    simp only [World.size_alloc] at this
    exact (Below.heap_alloc _ _ _ (by simp)).trans this)
  clear hW
  refine (HDROP.out W HBW.out).mono ?_
  rintro e w6 ⟨rfl, hb6⟩
  have KC6 := (hb6.block w.heap.size (by have := HSW.out; omega)).trans KC.out
  have KR6 := hid ((hb6.block (w.heap.size + 1) (by have := HSW.out; omega)).trans KR.out)
  have y0 : w6.cell? ⟨w.heap.size, 0, none⟩ = some (.slice pa C.pods.length pc) := (blk_cell KC6 0).trans rfl
  have y1 : w6.cell? ⟨w.heap.size, 1, none⟩ = some (.slice qa n qc) := (blk_cell KC6 1).trans rfl
  have r0 : w6.cell? ⟨w.heap.size + 1, 0, none⟩ = some (.slice none 0 0) := (blk_cell KR6.out 0).trans rfl
  have r1 : w6.cell? ⟨w.heap.size + 1, 1, none⟩ = some (.slice none 0 0) := (blk_cell KR6.out 1).trans rfl
  have rf := blk_frozen KR6.out
  have HB6 := hid (Ext.trans HBW.out hb6)
  clear hb6 KC6
  go_wp2
  have HBF := hid (show Below w.heap.size w ((w6.setCell ⟨w.heap.size + 1, 0, none⟩ (.slice pa C.pods.length pc)).setCell ⟨w.heap.size + 1, 1, none⟩ (.slice qa n qc)) from (HB6.out.setCell (by show w.heap.size ≤ w.heap.size + 1; omega) _).setCell (by show w.heap.size ≤ w.heap.size + 1; omega) _)
  have KRF := (set_blk (set_blk KR6.out 0 (.slice pa C.pods.length pc)) 1 (.slice qa n qc))
  have g0 := (blk_cell KRF 0).trans rfl
  have g1 := (blk_cell KRF 1).trans rfl
  generalize (w6.setCell ⟨w.heap.size + 1, 0, none⟩ (.slice pa C.pods.length pc)).setCell ⟨w.heap.size + 1, 1, none⟩ (.slice qa n qc) = F at HBF g0 g1 ⊢
  refine bodyPost_ret (v := .tuple #[.agg #[.slice pa C.pods.length pc, .slice qa n qc], .bool true]) (by simp [results, Tryz.results26, go_sem, g0, g1]) rfl ?_
  have hb := HBF.out
  have hs : Sub (hide w G) (hide F G) := Sub.grow hb
  exact ⟨pa, pc, qa, qc, u0, u1, u2, by rw [HNN.out], ⟨hpc, hqc⟩, rdPods.sub hs hb.size HP.out, rdPols.sub hs hb.size HQ.out, (hb.block tb HTL.out).trans HT.out, HTC.out.sub (BSub.hide fun b hl hG => ⟨hG, hb.block b hl⟩) hb.size, ⟨hb.os, hb.tape, hb.output, hb.size, fun b hl _ => hb.block b hl⟩⟩
theorem lessOne_any (C : DClu) (raw : Int) (tb : Nat) (G : Nat → Bool) (pa qa : Option Addr) (pc qc : Nat) (u0 u1 u2 : Value) (w : World) (hp : rdPods w.heap.size (hide w G) pa C.pods) (hq : rdPols w.heap.size (hide w G) qa C.pols) (hpc : C.pods.length ≤ pc) (hqc : C.pols.length ≤ qc) (ht : w.heap[tb]? = some (.cells #[u0, u1, u2] 94 (0, 0))) (hT : TabC w.heap.size (hide w G) u0 u1 u2 C) (hr : (right C).1 = 0) (hGt : G tb = true) (hGl : ∀ b, G b = true → b < w.heap.size) (hi : i64 raw) :
    Calls Tryz.prog 26 #[.agg #[.slice pa C.pods.length pc, .slice qa C.pols.length qc], .int .i64 raw, .pointer (some ⟨tb, 0, none⟩)] w fun e w' => ∃ D, (right D).1 = 0 ∧ FwOk G tb D w e w' := by
  obtain ⟨l1, l2⟩ := right_lens hr
  by_cases h0 : 0 ≤ raw
  · by_cases hz : C.pods.length = 0
    · by_cases hn : C.pols.length = 0
      · exact (without_nil C 0 raw tb G pa qa pc qc u0 u1 u2 w hp hq hpc hqc ht hT hr hGt hGl h0 hz hn).mono fun e w' h => ⟨C, hr, h⟩
      · obtain ⟨z0, z1⟩ := pk_in (c := raw) (n := (C.pols.length : Int)) (by omega)
        obtain ⟨k, hk⟩ : ∃ k : Nat, pk raw (C.pols.length : Int) = (k : Int) := ⟨(pk raw (C.pols.length : Int)).toNat, by omega⟩
        exact (without_poor C k raw tb G pa qa pc qc u0 u1 u2 w hp hq hpc hqc ht hT hr hGt hGl hi h0 hz hk (by omega)).mono fun e w' h => ⟨_, by rw [right_dropPol hr], h⟩
    · have z1 := Int.emod_lt_of_pos raw (show (0 : Int) < (C.pods.length : Int) by omega)
      have z0 := Int.emod_nonneg raw (show (C.pods.length : Int) ≠ 0 by omega)
      obtain ⟨k, hk⟩ : ∃ k : Nat, raw % (C.pods.length : Int) = (k : Int) := ⟨(raw % (C.pods.length : Int)).toNat, by omega⟩
      have hkl : k < C.pods.length := by omega
      exact (without_pod C k raw tb G pa qa pc qc u0 u1 u2 w hp hq hpc hqc ht hT hr hGt hGl h0 (by rw [Int.tmod_eq_emod_of_nonneg h0]; exact hk) hkl).mono fun e w' h => ⟨_, by rw [drop_filter (right_zero hr).1.2 (List.getElem?_eq_getElem hkl), right_dropPod hr], h⟩
  · by_cases hn : C.pols.length = 0
    · exact (without_none C 0 raw tb G pa qa pc qc u0 u1 u2 w hp hq hpc hqc ht hT hr hGt hGl h0 hn).mono fun e w' h => ⟨C, hr, h⟩
    · obtain ⟨z0, z1⟩ := pk_in (c := raw) (n := (C.pols.length : Int)) (by omega)
      obtain ⟨k, hk⟩ : ∃ k : Nat, pk raw (C.pols.length : Int) = (k : Int) := ⟨(pk raw (C.pols.length : Int)).toNat, by omega⟩
      exact (without_neg C k raw tb G pa qa pc qc u0 u1 u2 w hp hq hpc hqc ht hT hr hGt hGl hi h0 hk (by omega)).mono fun e w' h => ⟨_, by rw [right_dropPol hr], h⟩
end Go.Proofs.YtmkjlhplgcifiaaGreat
namespace Go.Proofs.YtmkjlhplgcifiaaGreat
open Go.ChangeShapes Go.WideShapes Go.ChangeAt Go.RowKit
attribute [local simp] World.cell?_grow
attribute [local go_sem] World.cell?_grow
attribute [local simp] World.cell?_alloc_there
attribute [local go_sem] World.cell?_alloc_there
attribute [local go_sem] eqg_blk std_blk eqg_pod std_pod eqg_sel std_sel eqg_prt std_prt
attribute [local go_sem ↓] eql_blk eql_sel neq_sel eql_prt eql_pod
attribute [local go_sem ↓] met_in1 met_in2 met_re1 met_re2
attribute [local go_sem ↓] met_has1 met_has2
attribute [local go_sem ↓] met_bl1 met_bl2
attribute [local go_sem] eqg_row std_row
attribute [local go_sem ↓] neq_row
set_option linter.unusedVariables false
set_option linter.unusedSimpArgs false
set_option maxHeartbeats 2000000 in
theorem keepAt_any (l : List DPod) (ip : Int) (pa qa : Option Addr) (pc qn qc : Nat) (w : World) (hp : rdPods w.heap.size w pa l) :
    Calls Tryz.prog 24 #[.agg #[.slice pa l.length pc, .slice qa qn qc], .int .i64 ip] w fun e w' => e = .returned (.int .i64 (ixOf l ip)) ∧ Below w.heap.size w w' := by
  have HP := hid hp
  have hlen := hp.1
  clear hp
  go_enter Tryz.func24, Tryz.ntmps24
  go_wp2
  go_loop [5] (fun i => ∃ k : Nat, k ≤ l.length ∧ i = .int .i64 k ∧ ∀ j y, j < k → l[j]? = some y → ¬ y.ip = ip) (fun i => l.length - (intOf i).toNat)
  case atStart => exact ⟨0, Nat.zero_le _, rfl, fun j y hj => absurd hj (Nat.not_lt_zero _)⟩
  case round =>
    obtain ⟨k, hk, rfl, hall⟩ := hrel
    have HA := hid hall
    clear hall
    by_cases hlt : k < l.length
    · obtain ⟨x, hxk⟩ : ∃ x, l[k]? = some x := ⟨l[k], by simp [hlt]⟩
      have HX := hid hxk
      clear hxk
      obtain ⟨b, off, rfl, hb, c0, c1, c2, c3⟩ := HP.out.2 k x HX.out
      cases hx : (x.ip == ip)
      · go_wp2
        go_round
        case rel =>
          refine ⟨k + 1, by omega, by go_num, fun j y hj hy => ?_⟩
          rcases Nat.lt_succ_iff_lt_or_eq.1 hj with h | h
          · exact HA.out j y h hy
          · subst h
            rw [HX.out] at hy
            cases hy
            simpa using hx
        case measure => simp [intOf]; omega
      · have HF := hid (ix_at HX.out HA.out (by simpa using hx))
        go_wp2
        go_ret
        exact ⟨by rw [HF.out]; rfl, (by repeat (first | exact Below.refl _ _ | assumption | apply Ext.alloc | apply Ext.drewN | apply Ext.drew | refine Ext.trans ?_ (by assumption)))⟩
    · have HF := hid (ix_none (l := l) (ip := ip) (fun j y hj => HA.out j y (by omega)))
      go_wp2
      go_ret
      exact ⟨by rw [HF.out]; rfl, (by repeat (first | exact Below.refl _ _ | assumption | apply Ext.alloc | apply Ext.drewN | apply Ext.drew | refine Ext.trans ?_ (by assumption)))⟩
end Go.Proofs.YtmkjlhplgcifiaaGreat
