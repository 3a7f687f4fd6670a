/-
  Peers: when one is right.
-/
import Derived.Test.YtmkjlhplgcifiaaGreatJ05
import Derived.Test.YtmkjlhplgcifiaaGreatJ06
namespace Go.Proofs.YtmkjlhplgcifiaaGreat
open Go.ChangeShapes Go.WideShapes Go.ChangeAt Go.RowKit
attribute [local simp] World.cell?_grow
attribute [local go_sem] World.cell?_grow
attribute [local go_sem] eqg_blk std_blk eqg_pod std_pod eqg_sel std_sel eqg_prt std_prt
attribute [local go_sem ↓] eql_blk eql_sel neq_sel eql_prt eql_pod
set_option linter.unusedVariables false
set_option linter.unusedSimpArgs false
set_option maxHeartbeats 1000000 in
theorem inBounds_any (x : DPeer) (ea : Option Addr) (ec : Nat) (w : World) (hr : rdBlks w.heap.size w ea x.exc) :
    Calls Tryz.prog 218 #[.agg #[.int .i64 x.kind, .int .i64 x.need, .int .i64 x.ban, .int .i64 x.spaces, .int .i64 x.base, .int .i64 x.bits, .slice ea x.exc.length ec]] w fun e w' => e = .returned (.bool (selOk x.need x.ban && btw x.spaces 0 15 && blkOk ⟨x.base, x.bits⟩ && few x.exc 2 blkOk)) ∧ Below w.heap.size w w' := by
  have HR := hid hr
  clear hr
  go_enter Tryz.func218, Tryz.ntmps218
  cases hq1 : selOk x.need x.ban
  · go_wp2_with (first
      | (go_at_call 119; refine (selRight_any _ _ _).mono ?_; rintro e w1 ⟨rfl, hb1⟩; obtain ⟨hc1, hf1⟩ := bcell hb1; have hz1 := hb_lt hb1)
      | (go_at_call 63; refine (within_any _ _ _ _).mono ?_; rintro e w' ⟨rfl, rfl⟩)
      | (go_at_call 219; refine (blkRight_any ⟨x.base, x.bits⟩ _).mono ?_; rintro e w1 ⟨rfl, hb1⟩; obtain ⟨hc1, hf1⟩ := bcell hb1; have hz1 := hb_lt hb1)
      | (go_at_call 220; refine (fewBlk blkOk _ _ _ _ _ (rdBlks.to HR.out (by repeat (first | exact Below.refl _ _ | assumption | apply Ext.alloc | apply Ext.drewN | apply Ext.drew | refine Ext.trans ?_ (by assumption)))) (fun x w1 _ _ => blkRight_any x w1)).mono ?_; rintro e w1 ⟨rfl, hb1⟩; obtain ⟨hc1, hf1⟩ := bcell hb1; have hz1 := hb_lt hb1))
    go_ret
    exact ⟨by simp [Bool.and_true, hq1], (by repeat (first | exact Below.refl _ _ | assumption | apply Ext.alloc | apply Ext.drewN | apply Ext.drew | refine Ext.trans ?_ (by assumption)))⟩
  cases hq2 : btw x.spaces 0 15
  · go_wp2_with (first
      | (go_at_call 119; refine (selRight_any _ _ _).mono ?_; rintro e w1 ⟨rfl, hb1⟩; obtain ⟨hc1, hf1⟩ := bcell hb1; have hz1 := hb_lt hb1)
      | (go_at_call 63; refine (within_any _ _ _ _).mono ?_; rintro e w' ⟨rfl, rfl⟩)
      | (go_at_call 219; refine (blkRight_any ⟨x.base, x.bits⟩ _).mono ?_; rintro e w1 ⟨rfl, hb1⟩; obtain ⟨hc1, hf1⟩ := bcell hb1; have hz1 := hb_lt hb1)
      | (go_at_call 220; refine (fewBlk blkOk _ _ _ _ _ (rdBlks.to HR.out (by repeat (first | exact Below.refl _ _ | assumption | apply Ext.alloc | apply Ext.drewN | apply Ext.drew | refine Ext.trans ?_ (by assumption)))) (fun x w1 _ _ => blkRight_any x w1)).mono ?_; rintro e w1 ⟨rfl, hb1⟩; obtain ⟨hc1, hf1⟩ := bcell hb1; have hz1 := hb_lt hb1))
    go_ret
    exact ⟨by simp [Bool.and_true, hq1, hq2], (by repeat (first | exact Below.refl _ _ | assumption | apply Ext.alloc | apply Ext.drewN | apply Ext.drew | refine Ext.trans ?_ (by assumption)))⟩
  cases hq3 : blkOk ⟨x.base, x.bits⟩
  · go_wp2_with (first
      | (go_at_call 119; refine (selRight_any _ _ _).mono ?_; rintro e w1 ⟨rfl, hb1⟩; obtain ⟨hc1, hf1⟩ := bcell hb1; have hz1 := hb_lt hb1)
      | (go_at_call 63; refine (within_any _ _ _ _).mono ?_; rintro e w' ⟨rfl, rfl⟩)
      | (go_at_call 219; refine (blkRight_any ⟨x.base, x.bits⟩ _).mono ?_; rintro e w1 ⟨rfl, hb1⟩; obtain ⟨hc1, hf1⟩ := bcell hb1; have hz1 := hb_lt hb1)
      | (go_at_call 220; refine (fewBlk blkOk _ _ _ _ _ (rdBlks.to HR.out (by repeat (first | exact Below.refl _ _ | assumption | apply Ext.alloc | apply Ext.drewN | apply Ext.drew | refine Ext.trans ?_ (by assumption)))) (fun x w1 _ _ => blkRight_any x w1)).mono ?_; rintro e w1 ⟨rfl, hb1⟩; obtain ⟨hc1, hf1⟩ := bcell hb1; have hz1 := hb_lt hb1))
    go_ret
    exact ⟨by simp [Bool.and_true, hq1, hq2, hq3], (by repeat (first | exact Below.refl _ _ | assumption | apply Ext.alloc | apply Ext.drewN | apply Ext.drew | refine Ext.trans ?_ (by assumption)))⟩
  cases hq4 : few x.exc 2 blkOk
  · go_wp2_with (first
      | (go_at_call 119; refine (selRight_any _ _ _).mono ?_; rintro e w1 ⟨rfl, hb1⟩; obtain ⟨hc1, hf1⟩ := bcell hb1; have hz1 := hb_lt hb1)
      | (go_at_call 63; refine (within_any _ _ _ _).mono ?_; rintro e w' ⟨rfl, rfl⟩)
      | (go_at_call 219; refine (blkRight_any ⟨x.base, x.bits⟩ _).mono ?_; rintro e w1 ⟨rfl, hb1⟩; obtain ⟨hc1, hf1⟩ := bcell hb1; have hz1 := hb_lt hb1)
      | (go_at_call 220; refine (fewBlk blkOk _ _ _ _ _ (rdBlks.to HR.out (by repeat (first | exact Below.refl _ _ | assumption | apply Ext.alloc | apply Ext.drewN | apply Ext.drew | refine Ext.trans ?_ (by assumption)))) (fun x w1 _ _ => blkRight_any x w1)).mono ?_; rintro e w1 ⟨rfl, hb1⟩; obtain ⟨hc1, hf1⟩ := bcell hb1; have hz1 := hb_lt hb1))
    go_ret
    exact ⟨by simp [Bool.and_true, hq1, hq2, hq3, hq4], (by repeat (first | exact Below.refl _ _ | assumption | apply Ext.alloc | apply Ext.drewN | apply Ext.drew | refine Ext.trans ?_ (by assumption)))⟩
  go_wp2_with (first
    | (go_at_call 119; refine (selRight_any _ _ _).mono ?_; rintro e w1 ⟨rfl, hb1⟩; obtain ⟨hc1, hf1⟩ := bcell hb1; have hz1 := hb_lt hb1)
    | (go_at_call 63; refine (within_any _ _ _ _).mono ?_; rintro e w' ⟨rfl, rfl⟩)
    | (go_at_call 219; refine (blkRight_any ⟨x.base, x.bits⟩ _).mono ?_; rintro e w1 ⟨rfl, hb1⟩; obtain ⟨hc1, hf1⟩ := bcell hb1; have hz1 := hb_lt hb1)
    | (go_at_call 220; refine (fewBlk blkOk _ _ _ _ _ (rdBlks.to HR.out (by repeat (first | exact Below.refl _ _ | assumption | apply Ext.alloc | apply Ext.drewN | apply Ext.drew | refine Ext.trans ?_ (by assumption)))) (fun x w1 _ _ => blkRight_any x w1)).mono ?_; rintro e w1 ⟨rfl, hb1⟩; obtain ⟨hc1, hf1⟩ := bcell hb1; have hz1 := hb_lt hb1))
  go_ret
  exact ⟨by simp [Bool.and_true, hq1, hq2, hq3, hq4], (by repeat (first | exact Below.refl _ _ | assumption | apply Ext.alloc | apply Ext.drewN | apply Ext.drew | refine Ext.trans ?_ (by assumption)))⟩
theorem restPods_any (x : DPeer) (ea : Option Addr) (ec : Nat) (w : World) (hr : x.exc.length ≤ 4611686018427387904) :
    Calls Tryz.prog 224 #[.agg #[.int .i64 x.kind, .int .i64 x.need, .int .i64 x.ban, .int .i64 x.spaces, .int .i64 x.base, .int .i64 x.bits, .slice ea x.exc.length ec]] w fun e w' => e = .returned (.bool (decide (x.base = 0) && decide (x.bits = 0) && decide (x.exc.length = 0))) ∧ Below w.heap.size w w' := by
  cases h1 : (decide (x.base = 0) && decide (x.bits = 0))
  · go_enter Tryz.func224, Tryz.ntmps224
    go_wp2
    go_ret
    exact ⟨ret_bool (by rw [Bool.false_and]), (by repeat (first | exact Below.refl _ _ | assumption | apply Ext.alloc | apply Ext.drewN | apply Ext.drew | refine Ext.trans ?_ (by assumption)))⟩
  · have HL := hid (show decide (x.exc.length = 0) = ((x.exc.length : Int) == 0) by rw [ibeq]; congr 1; simp)
    go_enter Tryz.func224, Tryz.ntmps224
    go_wp2
    go_ret
    exact ⟨ret_bool (by rw [Bool.true_and, HL.out]), (by repeat (first | exact Below.refl _ _ | assumption | apply Ext.alloc | apply Ext.drewN | apply Ext.drew | refine Ext.trans ?_ (by assumption)))⟩
theorem restBlocks_any (x : DPeer) (ea : Option Addr) (ec : Nat) (w : World) :
    Calls Tryz.prog 232 #[.agg #[.int .i64 x.kind, .int .i64 x.need, .int .i64 x.ban, .int .i64 x.spaces, .int .i64 x.base, .int .i64 x.bits, .slice ea x.exc.length ec]] w fun e w' => e = .returned (.bool (decide (x.need = 0) && decide (x.ban = 0) && decide (x.spaces = 0))) ∧ Below w.heap.size w w' := by
  cases h1 : (decide (x.need = 0) && decide (x.ban = 0))
  · go_enter Tryz.func232, Tryz.ntmps232
    go_wp2
    go_ret
    exact ⟨ret_bool (by rw [Bool.false_and]), (by repeat (first | exact Below.refl _ _ | assumption | apply Ext.alloc | apply Ext.drewN | apply Ext.drew | refine Ext.trans ?_ (by assumption)))⟩
  · go_enter Tryz.func232, Tryz.ntmps232
    go_wp2
    go_ret
    exact ⟨ret_bool (by rw [Bool.true_and]; exact ibeq _ _), (by repeat (first | exact Below.refl _ _ | assumption | apply Ext.alloc | apply Ext.drewN | apply Ext.drew | refine Ext.trans ?_ (by assumption)))⟩
theorem kindOf_pods (x : DPeer) (ea : Option Addr) (ec : Nat) (w : World) (hk : x.kind = 1) :
    Calls Tryz.prog 172 #[.agg #[.int .i64 x.kind, .int .i64 x.need, .int .i64 x.ban, .int .i64 x.spaces, .int .i64 x.base, .int .i64 x.bits, .slice ea x.exc.length ec]] w fun e w' =>
      e = .returned (.tuple #[.iface 227 (.agg #[.int .i64 x.kind, .int .i64 x.need, .int .i64 x.ban, .int .i64 x.spaces, .int .i64 x.base, .int .i64 x.bits, .slice ea x.exc.length ec]), .bool true]) ∧ Below w.heap.size w w' := by
  have h1 : (x.kind == 1) = true := by simp [hk]
  clear hk
  go_enter Tryz.func172, Tryz.ntmps172
  go_wp2
  go_ret2
  exact ⟨rfl, (by repeat (first | exact Below.refl _ _ | assumption | apply Ext.alloc | apply Ext.drewN | apply Ext.drew | refine Ext.trans ?_ (by assumption)))⟩
theorem kindOf_blocks (x : DPeer) (ea : Option Addr) (ec : Nat) (w : World) (hk : x.kind = 2) :
    Calls Tryz.prog 172 #[.agg #[.int .i64 x.kind, .int .i64 x.need, .int .i64 x.ban, .int .i64 x.spaces, .int .i64 x.base, .int .i64 x.bits, .slice ea x.exc.length ec]] w fun e w' =>
      e = .returned (.tuple #[.iface 228 (.agg #[.int .i64 x.kind, .int .i64 x.need, .int .i64 x.ban, .int .i64 x.spaces, .int .i64 x.base, .int .i64 x.bits, .slice ea x.exc.length ec]), .bool true]) ∧ Below w.heap.size w w' := by
  have h1 : (x.kind == 1) = false := by simp [hk]
  have h2 : (x.kind == 2) = true := by simp [hk]
  clear hk
  go_enter Tryz.func172, Tryz.ntmps172
  go_wp2
  go_ret2
  exact ⟨rfl, (by repeat (first | exact Below.refl _ _ | assumption | apply Ext.alloc | apply Ext.drewN | apply Ext.drew | refine Ext.trans ?_ (by assumption)))⟩
theorem kindOf_none (x : DPeer) (ea : Option Addr) (ec : Nat) (w : World) (hk1 : ¬ x.kind = 1) (hk2 : ¬ x.kind = 2) :
    Calls Tryz.prog 172 #[.agg #[.int .i64 x.kind, .int .i64 x.need, .int .i64 x.ban, .int .i64 x.spaces, .int .i64 x.base, .int .i64 x.bits, .slice ea x.exc.length ec]] w fun e w' =>
      e = .returned (.tuple #[.nilIface, .bool false]) ∧ Below w.heap.size w w' := by
  have h1 : (x.kind == 1) = false := by simp [hk1]
  have h2 : (x.kind == 2) = false := by simp [hk2]
  clear hk1 hk2
  go_enter Tryz.func172, Tryz.ntmps172
  go_wp2
  go_ret2
  exact ⟨rfl, (by repeat (first | exact Below.refl _ _ | assumption | apply Ext.alloc | apply Ext.drewN | apply Ext.drew | refine Ext.trans ?_ (by assumption)))⟩
theorem met_in1 (c0 c1 c2 c3 c4 c5 c6 : Value) (w : World) : (method 379 227 (.agg #[c0, c1, c2, c3, c4, c5, c6]) "palisade/peer.inBounds").run Tryz.prog w = .ok (218, .agg #[c0, c1, c2, c3, c4, c5, c6]) w := by kernel_rfl
theorem met_in2 (c0 c1 c2 c3 c4 c5 c6 : Value) (w : World) : (method 379 228 (.agg #[c0, c1, c2, c3, c4, c5, c6]) "palisade/peer.inBounds").run Tryz.prog w = .ok (218, .agg #[c0, c1, c2, c3, c4, c5, c6]) w := by kernel_rfl
theorem met_re1 (c0 c1 c2 c3 c4 c5 c6 : Value) (w : World) : (method 379 227 (.agg #[c0, c1, c2, c3, c4, c5, c6]) "palisade/peer.restEmpty").run Tryz.prog w = .ok (224, .agg #[c0, c1, c2, c3, c4, c5, c6]) w := by kernel_rfl
theorem met_re2 (c0 c1 c2 c3 c4 c5 c6 : Value) (w : World) : (method 379 228 (.agg #[c0, c1, c2, c3, c4, c5, c6]) "palisade/peer.restEmpty").run Tryz.prog w = .ok (232, .agg #[c0, c1, c2, c3, c4, c5, c6]) w := by kernel_rfl
attribute [local go_sem ↓] met_in1 met_in2 met_re1 met_re2
theorem peerOk_pods (x : DPeer) (h : x.kind = 1) : peerOk x = ((selOk x.need x.ban && btw x.spaces 0 15 && blkOk ⟨x.base, x.bits⟩ && few x.exc 2 blkOk) && (decide (x.base = 0) && decide (x.bits = 0) && decide (x.exc.length = 0))) := by
  rw [peerOk, if_pos h]
  by_cases h1 : x.base = 0
  · by_cases h2 : x.bits = 0
    · by_cases h3 : x.exc.length = 0
      · have e : x.exc = [] := List.eq_nil_of_length_eq_zero h3
        have e2 : blkOk ⟨0, 0⟩ = true := by simp [blkOk, btw]
        rw [h1, h2, e2, e]
        simp [few]
      · simp [h3]
    · simp [h2]
  · simp [h1]
theorem peerOk_blocks (x : DPeer) (h : x.kind = 2) : peerOk x = ((selOk x.need x.ban && btw x.spaces 0 15 && blkOk ⟨x.base, x.bits⟩ && few x.exc 2 blkOk) && (decide (x.need = 0) && decide (x.ban = 0) && decide (x.spaces = 0))) := by
  rw [peerOk, if_neg (by omega)]
  by_cases h1 : x.need = 0
  · by_cases h2 : x.ban = 0
    · by_cases h3 : x.spaces = 0
      · have e1 : selOk 0 0 = true := by simp [selOk, btw]
        have e2 : btw 0 0 15 = true := by simp [btw]
        rw [h1, h2, h3, e1, e2]
        simp [h]
      · simp [h3]
    · simp [h2]
  · simp [h1]
theorem peerOk_none (x : DPeer) (h1 : ¬ x.kind = 1) (h2 : ¬ x.kind = 2) : peerOk x = false := by simp [peerOk, h1, h2]
set_option maxRecDepth 100000 in
theorem peerRight_any (x : DPeer) (ea : Option Addr) (ec : Nat) (w : World) (hr : rdBlks w.heap.size w ea x.exc) :
    Calls Tryz.prog 151 #[.agg #[.int .i64 x.kind, .int .i64 x.need, .int .i64 x.ban, .int .i64 x.spaces, .int .i64 x.base, .int .i64 x.bits, .slice ea x.exc.length ec]] w fun e w' => e = .returned (.bool (peerOk x)) ∧ Below w.heap.size w w' := by
  have HR := hid hr
  have hlen := hr.1
  clear hr
  by_cases hk : x.kind = 1
  · have HK := hid hk
    have HP := hid (peerOk_pods x hk)
    clear hk
    generalize hg1 : (selOk x.need x.ban && btw x.spaces 0 15 && blkOk ⟨x.base, x.bits⟩ && few x.exc 2 blkOk) = g1 at HP
    have HG := hid hg1
    clear hg1
    cases g1
    · have HF := hid (show peerOk x = false by rw [HP.out]; rfl)
      go_enter Tryz.func151, Tryz.ntmps151
      go_wp2_with (first
        | (go_at_call 172; refine (kindOf_pods _ _ _ _ HK.out).mono ?_; rintro e w1 ⟨rfl, hb1⟩; obtain ⟨hc1, hf1⟩ := bcell hb1; have hz1 := hb_lt hb1)
        | (go_at_call 218; refine (inBounds_any _ _ _ _ (rdBlks.to HR.out (by repeat (first | exact Below.refl _ _ | assumption | apply Ext.alloc | apply Ext.drewN | apply Ext.drew | refine Ext.trans ?_ (by assumption))))).mono ?_; rw [HG.out]; rintro e w1 ⟨rfl, hb1⟩; obtain ⟨hc1, hf1⟩ := bcell hb1; have hz1 := hb_lt hb1))
      go_ret
      exact ⟨ret_bool (by rw [HF.out]), (by repeat (first | exact Below.refl _ _ | assumption | apply Ext.alloc | apply Ext.drewN | apply Ext.drew | refine Ext.trans ?_ (by assumption)))⟩
    · have HF := hid (show peerOk x = (decide (x.base = 0) && decide (x.bits = 0) && decide (x.exc.length = 0)) by rw [HP.out]; rfl)
      go_enter Tryz.func151, Tryz.ntmps151
      go_wp2_with (first
        | (go_at_call 172; refine (kindOf_pods _ _ _ _ HK.out).mono ?_; rintro e w1 ⟨rfl, hb1⟩; obtain ⟨hc1, hf1⟩ := bcell hb1; have hz1 := hb_lt hb1)
        | (go_at_call 218; refine (inBounds_any _ _ _ _ (rdBlks.to HR.out (by repeat (first | exact Below.refl _ _ | assumption | apply Ext.alloc | apply Ext.drewN | apply Ext.drew | refine Ext.trans ?_ (by assumption))))).mono ?_; rw [HG.out]; rintro e w1 ⟨rfl, hb1⟩; obtain ⟨hc1, hf1⟩ := bcell hb1; have hz1 := hb_lt hb1)
        | (go_at_call 224; refine (restPods_any _ _ _ _ (by omega)).mono ?_; rintro e w1 ⟨rfl, hb1⟩; obtain ⟨hc1, hf1⟩ := bcell hb1; have hz1 := hb_lt hb1))
      go_ret
      exact ⟨ret_bool (by rw [HF.out]; simp), (by repeat (first | exact Below.refl _ _ | assumption | apply Ext.alloc | apply Ext.drewN | apply Ext.drew | refine Ext.trans ?_ (by assumption)))⟩
  by_cases hk2 : x.kind = 2
  · have HK := hid hk2
    have HP := hid (peerOk_blocks x hk2)
    clear hk hk2
    generalize hg1 : (selOk x.need x.ban && btw x.spaces 0 15 && blkOk ⟨x.base, x.bits⟩ && few x.exc 2 blkOk) = g1 at HP
    have HG := hid hg1
    clear hg1
    cases g1
    · have HF := hid (show peerOk x = false by rw [HP.out]; rfl)
      go_enter Tryz.func151, Tryz.ntmps151
      go_wp2_with (first
        | (go_at_call 172; refine (kindOf_blocks _ _ _ _ HK.out).mono ?_; rintro e w1 ⟨rfl, hb1⟩; obtain ⟨hc1, hf1⟩ := bcell hb1; have hz1 := hb_lt hb1)
        | (go_at_call 218; refine (inBounds_any _ _ _ _ (rdBlks.to HR.out (by repeat (first | exact Below.refl _ _ | assumption | apply Ext.alloc | apply Ext.drewN | apply Ext.drew | refine Ext.trans ?_ (by assumption))))).mono ?_; rw [HG.out]; rintro e w1 ⟨rfl, hb1⟩; obtain ⟨hc1, hf1⟩ := bcell hb1; have hz1 := hb_lt hb1))
      go_ret
      exact ⟨ret_bool (by rw [HF.out]), (by repeat (first | exact Below.refl _ _ | assumption | apply Ext.alloc | apply Ext.drewN | apply Ext.drew | refine Ext.trans ?_ (by assumption)))⟩
    · have HF := hid (show peerOk x = (decide (x.need = 0) && decide (x.ban = 0) && decide (x.spaces = 0)) by rw [HP.out]; rfl)
      go_enter Tryz.func151, Tryz.ntmps151
      go_wp2_with (first
        | (go_at_call 172; refine (kindOf_blocks _ _ _ _ HK.out).mono ?_; rintro e w1 ⟨rfl, hb1⟩; obtain ⟨hc1, hf1⟩ := bcell hb1; have hz1 := hb_lt hb1)
        | (go_at_call 218; refine (inBounds_any _ _ _ _ (rdBlks.to HR.out (by repeat (first | exact Below.refl _ _ | assumption | apply Ext.alloc | apply Ext.drewN | apply Ext.drew | refine Ext.trans ?_ (by assumption))))).mono ?_; rw [HG.out]; rintro e w1 ⟨rfl, hb1⟩; obtain ⟨hc1, hf1⟩ := bcell hb1; have hz1 := hb_lt hb1)
        | (go_at_call 232; refine (restBlocks_any _ _ _ _).mono ?_; rintro e w1 ⟨rfl, hb1⟩; obtain ⟨hc1, hf1⟩ := bcell hb1; have hz1 := hb_lt hb1))
      go_ret
      exact ⟨ret_bool (by rw [HF.out]), (by repeat (first | exact Below.refl _ _ | assumption | apply Ext.alloc | apply Ext.drewN | apply Ext.drew | refine Ext.trans ?_ (by assumption)))⟩
  · have HF := hid (peerOk_none x hk hk2)
    have HK1 := hid hk
    have HK2 := hid hk2
    clear hk hk2
    go_enter Tryz.func151, Tryz.ntmps151
    go_wp2_with (go_at_call 172; refine (kindOf_none _ _ _ _ HK1.out HK2.out).mono ?_; rintro e w1 ⟨rfl, hb1⟩; obtain ⟨hc1, hf1⟩ := bcell hb1; have hz1 := hb_lt hb1)
    go_ret
    exact ⟨ret_bool (by rw [HF.out]), (by repeat (first | exact Below.refl _ _ | assumption | apply Ext.alloc | apply Ext.drewN | apply Ext.drew | refine Ext.trans ?_ (by assumption)))⟩
end Go.Proofs.YtmkjlhplgcifiaaGreat
