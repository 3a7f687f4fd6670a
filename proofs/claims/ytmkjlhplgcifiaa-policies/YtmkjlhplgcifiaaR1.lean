/-
  The document's answer: when a peer, a rule, a policy is right.
-/
import Derived.Test.YtmkjlhplgcifiaaL9b
import Derived.Test.YtmkjlhplgcifiaaL6
namespace Go.Proofs.Ytmkjlhplgcifiaa
open Go.ChangeShapes Go.WideShapes Go.ChangeAt Go.RowKit
attribute [local simp] World.cell?_grow
attribute [local go_sem] World.cell?_grow
attribute [local simp] World.cell?_alloc_there
attribute [local go_sem] World.cell?_alloc_there
attribute [local go_sem] eqg_blk std_blk eqg_pod std_pod eqg_sel std_sel eqg_prt std_prt
attribute [local go_sem ↓] eql_blk eql_sel neq_sel eql_prt eql_pod
attribute [local go_sem ↓] met_in1 met_in2 met_re1 met_re2
attribute [local go_sem ↓] met_has1 met_has2
set_option linter.unusedVariables false
set_option linter.unusedSimpArgs false

theorem bneF {a b : Int} (h : a = b) : (a != b) = false := by simp [h]
theorem bneT {a b : Int} (h : ¬ a = b) : (a != b) = true := by simp [h]

set_option maxHeartbeats 2000000 in
theorem refPeer_pods (x : DPeer) (ea : Option Addr) (ec : Nat) (w : World) (hr : rdBlks w.heap.size w ea x.exc) (hk : x.kind = 1) :
    Calls Try.prog 58 #[.agg #[.int .i64 x.kind, .int .i64 x.need, .int .i64 x.ban, .int .i64 x.spaces, .int .i64 x.base, .int .i64 x.bits, .slice ea x.exc.length ec]] w fun e w' => e = .returned (.bool (peerOk x)) ∧ Below w.heap.size w w' := by
  have hlen := hr.1
  have h1 : (x.kind == 1) = true := by simp [hk]
  have HP := hid (show peerOk x = (selOk x.need x.ban && btw x.spaces 0 15 && decide (x.base = 0) && decide (x.bits = 0) && decide (x.exc.length = 0)) by rw [peerOk, if_pos hk])
  clear hr hk
  cases hq1 : selOk x.need x.ban
  · have HF := hid (show peerOk x = false by rw [HP.out, hq1]; simp)
    go_enter Try.func58, Try.ntmps58
    go_wp2_with (first
      | (go_at_call 38; refine (refSel_any _ _ _).mono ?_; rintro e w1 ⟨rfl, hb1⟩; obtain ⟨hc1, hf1⟩ := bcell hb1; have hz1 := hb_lt hb1)
      | (go_at_call 37; refine (between_any _ _ _ _).mono ?_; rintro e w' ⟨rfl, rfl⟩))
    go_ret
    exact ⟨ret_bool (by rw [HF.out]), (by repeat (first | exact Below.refl _ _ | assumption | apply Ext.alloc | apply Ext.drewN | apply Ext.drew | refine Ext.trans ?_ (by assumption)))⟩
  cases hq2 : btw x.spaces 0 15
  · have HF := hid (show peerOk x = false by rw [HP.out, hq1, hq2]; simp)
    go_enter Try.func58, Try.ntmps58
    go_wp2_with (first
      | (go_at_call 38; refine (refSel_any _ _ _).mono ?_; rintro e w1 ⟨rfl, hb1⟩; obtain ⟨hc1, hf1⟩ := bcell hb1; have hz1 := hb_lt hb1)
      | (go_at_call 37; refine (between_any _ _ _ _).mono ?_; rintro e w' ⟨rfl, rfl⟩))
    go_ret
    exact ⟨ret_bool (by rw [HF.out]), (by repeat (first | exact Below.refl _ _ | assumption | apply Ext.alloc | apply Ext.drewN | apply Ext.drew | refine Ext.trans ?_ (by assumption)))⟩
  cases hq3 : (decide (x.base = 0) && decide (x.bits = 0))
  · have HF := hid (show peerOk x = false by rw [HP.out, hq1, hq2, Bool.and_assoc (true && true), hq3]; simp)
    go_enter Try.func58, Try.ntmps58
    go_wp2_with (first
      | (go_at_call 38; refine (refSel_any _ _ _).mono ?_; rintro e w1 ⟨rfl, hb1⟩; obtain ⟨hc1, hf1⟩ := bcell hb1; have hz1 := hb_lt hb1)
      | (go_at_call 37; refine (between_any _ _ _ _).mono ?_; rintro e w' ⟨rfl, rfl⟩))
    go_ret
    exact ⟨ret_bool (by rw [HF.out]), (by repeat (first | exact Below.refl _ _ | assumption | apply Ext.alloc | apply Ext.drewN | apply Ext.drew | refine Ext.trans ?_ (by assumption)))⟩
  have HF := hid (show peerOk x = ((x.exc.length : Int) == 0) by rw [HP.out, hq1, hq2, Bool.and_assoc (true && true), hq3, ibeq]; simp)
  go_enter Try.func58, Try.ntmps58
  go_wp2_with (first
    | (go_at_call 38; refine (refSel_any _ _ _).mono ?_; rintro e w1 ⟨rfl, hb1⟩; obtain ⟨hc1, hf1⟩ := bcell hb1; have hz1 := hb_lt hb1)
    | (go_at_call 37; refine (between_any _ _ _ _).mono ?_; rintro e w' ⟨rfl, rfl⟩))
  go_ret
  exact ⟨ret_bool (by rw [HF.out]), (by repeat (first | exact Below.refl _ _ | assumption | apply Ext.alloc | apply Ext.drewN | apply Ext.drew | refine Ext.trans ?_ (by assumption)))⟩

set_option maxHeartbeats 4000000 in
theorem refPeer_blocks (x : DPeer) (ea : Option Addr) (ec : Nat) (w : World) (hr : rdBlks w.heap.size w ea x.exc) (hk : ¬ x.kind = 1) :
    Calls Try.prog 58 #[.agg #[.int .i64 x.kind, .int .i64 x.need, .int .i64 x.ban, .int .i64 x.spaces, .int .i64 x.base, .int .i64 x.bits, .slice ea x.exc.length ec]] w fun e w' => e = .returned (.bool (peerOk x)) ∧ Below w.heap.size w w' := by
  have hlen := hr.1
  have HR := hid hr
  have h1 : (x.kind == 1) = false := by simp [hk]
  have HP := hid (show peerOk x = (decide (x.kind = 2) && blkOk ⟨x.base, x.bits⟩ && decide (x.need = 0) && decide (x.ban = 0) && decide (x.spaces = 0) && few x.exc 2 blkOk) by rw [peerOk, if_neg hk])
  clear hr hk
  by_cases hk2 : ¬ x.kind = 2
  · have HF := hid (show peerOk x = false by rw [HP.out]; simp [hk2])
    have h2 := bneT hk2
    clear hk2
    go_enter Try.func58, Try.ntmps58
    go_wp2_with (go_at_call 74; refine (refBlk_any ⟨x.base, x.bits⟩ _).mono ?_; rintro e w1 ⟨rfl, hb1⟩; obtain ⟨hc1, hf1⟩ := bcell hb1; have hz1 := hb_lt hb1)
    go_ret
    exact ⟨ret_bool (by rw [HF.out]), (by repeat (first | exact Below.refl _ _ | assumption | apply Ext.alloc | apply Ext.drewN | apply Ext.drew | refine Ext.trans ?_ (by assumption)))⟩
  have hk2 := Decidable.not_not.1 hk2
  have h2 := bneF hk2
  have HK := hid hk2
  clear hk2
  cases hq1 : blkOk ⟨x.base, x.bits⟩
  · have HF := hid (show peerOk x = false by rw [HP.out, hq1]; simp)
    go_enter Try.func58, Try.ntmps58
    go_wp2_with (go_at_call 74; refine (refBlk_any ⟨x.base, x.bits⟩ _).mono ?_; rintro e w1 ⟨rfl, hb1⟩; obtain ⟨hc1, hf1⟩ := bcell hb1; have hz1 := hb_lt hb1)
    go_ret
    exact ⟨ret_bool (by rw [HF.out]), (by repeat (first | exact Below.refl _ _ | assumption | apply Ext.alloc | apply Ext.drewN | apply Ext.drew | refine Ext.trans ?_ (by assumption)))⟩
  cases hq2 : (decide (x.need = 0) && decide (x.ban = 0))
  · have HF := hid (show peerOk x = false by
      rw [HP.out]
      by_cases a : x.need = 0
      · by_cases b : x.ban = 0
        · simp [a, b] at hq2
        · simp [b]
      · simp [a])
    go_enter Try.func58, Try.ntmps58
    go_wp2_with (go_at_call 74; refine (refBlk_any ⟨x.base, x.bits⟩ _).mono ?_; rintro e w1 ⟨rfl, hb1⟩; obtain ⟨hc1, hf1⟩ := bcell hb1; have hz1 := hb_lt hb1)
    go_ret
    exact ⟨ret_bool (by rw [HF.out]), (by repeat (first | exact Below.refl _ _ | assumption | apply Ext.alloc | apply Ext.drewN | apply Ext.drew | refine Ext.trans ?_ (by assumption)))⟩
  by_cases hs : ¬ x.spaces = 0
  · have HF := hid (show peerOk x = false by rw [HP.out]; simp [hs])
    have h3 := bneT hs
    clear hs
    go_enter Try.func58, Try.ntmps58
    go_wp2_with (go_at_call 74; refine (refBlk_any ⟨x.base, x.bits⟩ _).mono ?_; rintro e w1 ⟨rfl, hb1⟩; obtain ⟨hc1, hf1⟩ := bcell hb1; have hz1 := hb_lt hb1)
    go_ret
    exact ⟨ret_bool (by rw [HF.out]), (by repeat (first | exact Below.refl _ _ | assumption | apply Ext.alloc | apply Ext.drewN | apply Ext.drew | refine Ext.trans ?_ (by assumption)))⟩
  have hs := Decidable.not_not.1 hs
  have h3 := bneF hs
  have HS := hid hs
  clear hs
  by_cases hl : ¬ (x.exc.length : Int) ≤ 2
  · have HF := hid (show peerOk x = false by rw [HP.out]; simp [few, hl])
    go_enter Try.func58, Try.ntmps58
    go_wp2_with (go_at_call 74; refine (refBlk_any ⟨x.base, x.bits⟩ _).mono ?_; rintro e w1 ⟨rfl, hb1⟩; obtain ⟨hc1, hf1⟩ := bcell hb1; have hz1 := hb_lt hb1)
    go_ret
    exact ⟨ret_bool (by rw [HF.out]), (by repeat (first | exact Below.refl _ _ | assumption | apply Ext.alloc | apply Ext.drewN | apply Ext.drew | refine Ext.trans ?_ (by assumption)))⟩
  have hl := Decidable.not_not.1 hl
  have HF := hid (show peerOk x = x.exc.all blkOk by
    have a := hq2
    simp only [Bool.and_eq_true, decide_eq_true_eq] at a
    rw [HP.out, hq1]
    simp [few, hl, HK.out, HS.out, a.1, a.2])
  go_enter Try.func58, Try.ntmps58
  go_wp2_with (go_at_call 74; refine (refBlk_any ⟨x.base, x.bits⟩ _).mono ?_; rintro e w1 ⟨rfl, hb1⟩; obtain ⟨hc1, hf1⟩ := bcell hb1; have hz1 := hb_lt hb1)
  go_loopw [6] (fun i wr => ∃ k : Nat, k ≤ x.exc.length ∧ i = .int .i64 k ∧ (x.exc.take k).all blkOk = true ∧ Below (w.alloc (Obj.cells #[.int .i64 x.kind, .int .i64 x.need, .int .i64 x.ban, .int .i64 x.spaces, .int .i64 x.base, .int .i64 x.bits, .slice ea x.exc.length ec] 47)).heap.size (w.alloc (Obj.cells #[.int .i64 x.kind, .int .i64 x.need, .int .i64 x.ban, .int .i64 x.spaces, .int .i64 x.base, .int .i64 x.bits, .slice ea x.exc.length ec] 47)) wr) (fun i _ => x.exc.length - (intOf i).toNat)
  case atStart => exact ⟨0, Nat.zero_le _, rfl, rfl, hb1⟩
  case round =>
    obtain ⟨k, hk, rfl, hall, hbw⟩ := hrel
    have HA := hid hall
    clear hall
    have z6 : wr.cell? ⟨w.heap.size, 6, none⟩ = some (.slice ea x.exc.length ec) := cell_to (by simp [go_sem]) hbw
    have hC : Below w.heap.size w wr := Ext.trans (Ext.alloc (Below.refl _ _) _) hbw
    have HW := hid hbw
    clear hbw hc1 hf1 hz1
    by_cases hlt : k < x.exc.length
    · obtain ⟨y, hxk⟩ : ∃ y, x.exc[k]? = some y := ⟨x.exc[k], by simp [hlt]⟩
      have HX := hid hxk
      clear hxk
      obtain ⟨b, off, rfl, hb, c0, c1⟩ := HR.out.2 k y HX.out
      have d0 := cell_to c0 hC
      have d1 := cell_to c1 hC
      clear c0 c1
      cases hy : blkOk y
      · go_wp2_with (go_at_call 74; refine (refBlk_any y _).mono ?_; rintro e w2 ⟨rfl, hb2⟩; obtain ⟨hc2, hf2⟩ := bcell hb2; have hz2 := hb_lt hb2)
        go_ret
        exact ⟨ret_bool (by rw [HF.out, all_false HX.out hy]), Ext.trans hC hb2⟩
      · go_wp2_with (go_at_call 74; refine (refBlk_any y _).mono ?_; rintro e w2 ⟨rfl, hb2⟩; obtain ⟨hc2, hf2⟩ := bcell hb2; have hz2 := hb_lt hb2)
        exact ⟨⟨k + 1, by omega, by go_num, take_all HX.out HA.out hy, Ext.trans HW.out hb2⟩, by simp [intOf]; omega⟩
    · go_wp2
      go_ret
      have := HA.out
      rw [List.take_of_length_le (by omega)] at this
      exact ⟨ret_bool (by rw [HF.out, this]), hC⟩

theorem refPeer_any (x : DPeer) (ea : Option Addr) (ec : Nat) (w : World) (hr : rdBlks w.heap.size w ea x.exc) :
    Calls Try.prog 58 #[.agg #[.int .i64 x.kind, .int .i64 x.need, .int .i64 x.ban, .int .i64 x.spaces, .int .i64 x.base, .int .i64 x.bits, .slice ea x.exc.length ec]] w fun e w' => e = .returned (.bool (peerOk x)) ∧ Below w.heap.size w w' := by
  by_cases hk : x.kind = 1
  · exact refPeer_pods x ea ec w hr hk
  · exact refPeer_blocks x ea ec w hr hk
end Go.Proofs.Ytmkjlhplgcifiaa
