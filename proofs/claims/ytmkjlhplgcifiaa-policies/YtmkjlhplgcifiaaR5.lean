/-
  The document's answer: the pod with an address; whether a peer has an address.
-/
import Derived.Test.YtmkjlhplgcifiaaR4
import Derived.Test.YtmkjlhplgcifiaaL12
namespace Go.Proofs.Ytmkjlhplgcifiaa
open Go.ChangeShapes Go.WideShapes Go.ChangeAt Go.RowKit
attribute [local simp] World.cell?_grow
attribute [local go_sem] World.cell?_grow
attribute [local simp] World.cell?_alloc_there
attribute [local go_sem] World.cell?_alloc_there
attribute [local go_sem] eqg_blk std_blk eqg_pod std_pod eqg_sel std_sel eqg_prt std_prt
attribute [local go_sem ↓] eql_blk eql_sel neq_sel eql_prt eql_pod
attribute [local go_sem ↓] met_in1 met_in2 met_re1 met_re2
attribute [local go_sem ↓] met_has1 met_has2
set_option linter.unusedVariables false
set_option linter.unusedSimpArgs false

def ixOf (l : List DPod) (ip : Int) : Int := match l.findIdx? (fun p => decide (p.ip = ip)) with | some k => k | none => -1
theorem ix_at {l : List DPod} {k : Nat} {x : DPod} {ip : Int} (h : l[k]? = some x) (hb : ∀ j y, j < k → l[j]? = some y → ¬ y.ip = ip) (hx : x.ip = ip) : ixOf l ip = k := by
  obtain ⟨hk, he⟩ := List.getElem?_eq_some_iff.1 h
  have : l.findIdx? (fun p => decide (p.ip = ip)) = some k := by
    rw [List.findIdx?_eq_some_iff_getElem]
    refine ⟨hk, by simp [he, hx], fun j hj => ?_⟩
    have := hb j l[j] hj (by simp)
    simp [this]
  rw [ixOf, this]
theorem ix_none {l : List DPod} {ip : Int} (hb : ∀ j y, j < l.length → l[j]? = some y → ¬ y.ip = ip) : ixOf l ip = -1 := by
  have : l.findIdx? (fun p => decide (p.ip = ip)) = none := by
    rw [List.findIdx?_eq_none_iff]
    intro x hx
    obtain ⟨j, hj, he⟩ := List.getElem_of_mem hx
    have := hb j x hj (by rw [List.getElem?_eq_getElem hj, he])
    simp [this]
  rw [ixOf, this]
theorem podAt_ix {l : List DPod} {ip : Int} {p : DPod} (h : podAt l ip = some p) : ∃ k : Nat, l[k]? = some p ∧ ixOf l ip = k := by
  unfold podAt at h
  rw [List.find?_eq_some_iff_getElem] at h
  obtain ⟨hp, k, hk, he, hb⟩ := h
  have hk2 : l[k]? = some p := by rw [List.getElem?_eq_getElem hk, he]
  refine ⟨k, hk2, ix_at hk2 (fun j y hj hy => ?_) (by simpa using hp)⟩
  have := hb j hj
  obtain ⟨h1, h2⟩ := List.getElem?_eq_some_iff.1 hy
  rw [h2] at this
  simpa using this
theorem podAt_ixn {l : List DPod} {ip : Int} (h : podAt l ip = none) : ixOf l ip = -1 := by
  refine ix_none (fun j y hj hy he => ?_)
  unfold podAt at h
  rw [List.find?_eq_none] at h
  have := h y (List.mem_of_getElem? hy)
  simp [he] at this

set_option maxHeartbeats 2000000 in
theorem refAt_any (l : List DPod) (ip : Int) (pa qa : Option Addr) (pc qn qc : Nat) (w : World) (hp : rdPods w.heap.size w pa l) :
    Calls Try.prog 46 #[.agg #[.slice pa l.length pc, .slice qa qn qc], .int .i64 ip] w fun e w' => e = .returned (.int .i64 (ixOf l ip)) ∧ Below w.heap.size w w' := by
  have HP := hid hp
  have hlen := hp.1
  clear hp
  go_enter Try.func46, Try.ntmps46
  go_wp2
  go_loop [5] (fun i => ∃ k : Nat, k ≤ l.length ∧ i = .int .i64 k ∧ ∀ j y, j < k → l[j]? = some y → ¬ y.ip = ip) (fun i => l.length - (intOf i).toNat)
  case atStart => exact ⟨0, Nat.zero_le _, rfl, fun j y hj => absurd hj (Nat.not_lt_zero _)⟩
  case round =>
    obtain ⟨k, hk, rfl, hall⟩ := hrel
    have HA := hid hall
    clear hall
    by_cases hlt : k < l.length
    · obtain ⟨x, hxk⟩ : ∃ x, l[k]? = some x := ⟨l[k], by simp [hlt]⟩
      have HX := hid hxk
      clear hxk
      obtain ⟨b, off, rfl, hb, c0, c1, c2, c3⟩ := HP.out.2 k x HX.out
      cases hx : (x.ip == ip)
      · go_wp2
        go_round
        case rel =>
          refine ⟨k + 1, by omega, by go_num, fun j y hj hy => ?_⟩
          rcases Nat.lt_succ_iff_lt_or_eq.1 hj with h | h
          · exact HA.out j y h hy
          · subst h
            rw [HX.out] at hy
            cases hy
            simpa using hx
        case measure => simp [intOf]; omega
      · have HF := hid (ix_at HX.out HA.out (by simpa using hx))
        go_wp2
        go_ret
        exact ⟨by rw [HF.out]; rfl, (by repeat (first | exact Below.refl _ _ | assumption | apply Ext.alloc | apply Ext.drewN | apply Ext.drew | refine Ext.trans ?_ (by assumption)))⟩
    · have HF := hid (ix_none (l := l) (ip := ip) (fun j y hj => HA.out j y (by omega)))
      go_wp2
      go_ret
      exact ⟨by rw [HF.out]; rfl, (by repeat (first | exact Below.refl _ _ | assumption | apply Ext.alloc | apply Ext.drewN | apply Ext.drew | refine Ext.trans ?_ (by assumption)))⟩

set_option maxRecDepth 100000 in
set_option maxHeartbeats 4000000 in
theorem refHasBlocks (x : DPeer) (ea : Option Addr) (ec : Nat) (ip space : Int) (pa qa : Option Addr) (pn pc qn qc : Nat) (w : World) (hr : rdBlks w.heap.size w ea x.exc)
    (hk : x.kind = 2) (hx : blkOk ⟨x.base, x.bits⟩ = true) (he : x.exc.all blkOk = true) (h0 : 0 ≤ ip) (h1 : ip ≤ 4294967295) :
    Calls Try.prog 68 #[.agg #[.slice pa pn pc, .slice qa qn qc], .int .i64 space, .agg #[.int .i64 x.kind, .int .i64 x.need, .int .i64 x.ban, .int .i64 x.spaces, .int .i64 x.base, .int .i64 x.bits, .slice ea x.exc.length ec], .int .i64 ip] w
      fun e w' => e = .returned (.bool (blkHas ip ⟨x.base, x.bits⟩ && !(x.exc.any (blkHas ip)))) ∧ Below w.heap.size w w' := by
  have HR := hid hr
  have HX := hid hx
  have HE := hid he
  have hlen := hr.1
  have hk2 : (x.kind == 2) = true := by simp [hk]
  clear hr hx he hk
  go_enter Try.func68, Try.ntmps68
  go_wp2_with (go_at_call 82; refine (refHas_any ⟨x.base, x.bits⟩ ip _ HX.out h0 h1).mono ?_; rintro e w1 ⟨rfl, hb1⟩; obtain ⟨hc1, hf1⟩ := bcell hb1; have hz1 := hb_lt hb1)
  have y6 : w1.cell? ⟨w.heap.size + 1, 6, none⟩ = some (.slice ea x.exc.length ec) := cell_to (by simp [go_sem]) hb1
  have hB : Below w.heap.size w w1 := (by repeat (first | exact Below.refl _ _ | assumption | apply Ext.alloc | apply Ext.drewN | apply Ext.drew | refine Ext.trans ?_ (by assumption)))
  clear hc1 hf1 hz1
  go_loopw [9, 10] (fun inn i wr => ∃ t : Nat, t ≤ x.exc.length ∧ i = .int .i64 t ∧ inn = .bool (blkHas ip ⟨x.base, x.bits⟩ && !((x.exc.take t).any (blkHas ip))) ∧ Below w1.heap.size w1 wr) (fun _ i _ => x.exc.length - (intOf i).toNat)
  case atStart => exact ⟨0, Nat.zero_le _, rfl, by simp, Below.refl _ _⟩
  case round =>
    obtain ⟨t, ht, rfl, rfl, hbw⟩ := hrel
    have z6 := cell_to y6 hbw
    have hC : Below w.heap.size w wr := Ext.trans hB hbw
    by_cases hlt : t < x.exc.length
    · obtain ⟨y, hyk⟩ : ∃ y, x.exc[t]? = some y := ⟨x.exc[t], by simp [hlt]⟩
      have HY := hid hyk
      have HT := hid (take_any' (f := blkHas ip) hyk)
      have HO := hid (List.all_eq_true.1 HE.out y (List.mem_of_getElem? hyk))
      clear hyk
      obtain ⟨b, off, rfl, hb, c0, c1⟩ := HR.out.2 t y HY.out
      have d0 := cell_to c0 hC
      have d1 := cell_to c1 hC
      clear c0 c1
      generalize hg : (blkHas ip ⟨x.base, x.bits⟩ && !((x.exc.take t).any (blkHas ip))) = g
      have HH := hid (show (blkHas ip ⟨x.base, x.bits⟩ && !((x.exc.take (t + 1)).any (blkHas ip))) = (g && !(blkHas ip y)) by rw [HT.out, Bool.not_or, ← Bool.and_assoc, hg])
      clear hg
      cases g
      · go_wp2_with (go_at_call 82; refine (refHas_any y ip _ HO.out h0 h1).mono ?_; rintro e w2 ⟨rfl, hb2⟩; obtain ⟨hc2, hf2⟩ := bcell hb2; have hz2 := hb_lt hb2)
        exact ⟨⟨t + 1, by omega, by go_num, by rw [HH.out]; rfl, Ext.trans hbw hb2⟩, by simp [intOf]; omega⟩
      · go_wp2_with (go_at_call 82; refine (refHas_any y ip _ HO.out h0 h1).mono ?_; rintro e w2 ⟨rfl, hb2⟩; obtain ⟨hc2, hf2⟩ := bcell hb2; have hz2 := hb_lt hb2)
        exact ⟨⟨t + 1, by omega, by go_num, by rw [HH.out]; simp, Ext.trans hbw hb2⟩, by simp [intOf]; omega⟩
    · have e : x.exc.take t = x.exc := List.take_of_length_le (by omega)
      rw [e]
      clear e
      go_wp2
      go_ret
      exact ⟨rfl, hC⟩
end Go.Proofs.Ytmkjlhplgcifiaa
