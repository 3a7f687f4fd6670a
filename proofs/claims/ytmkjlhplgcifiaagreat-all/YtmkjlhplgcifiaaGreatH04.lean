/-
  Peers: when one is right.
-/
import Derived.Test.YtmkjlhplgcifiaaGreatH03
import Derived.Test.YtmkjlhplgcifiaaGreatH01
import Derived.OwnWalk
namespace Go.Proofs.YtmkjlhplgcifiaaGreat
open Go.ChangeShapes Go.WideShapes Go.ChangeAt Go.RowKit
set_option linter.unusedVariables false
set_option linter.unusedSimpArgs false
attribute [local simp] World.cell?_grow
attribute [local go_sem] World.cell?_grow eqg_blk std_blk eqg_pod std_pod eqg_sel std_sel eqg_prt std_prt
attribute [local go_sem ↓] eql_blk eql_sel neq_sel eql_prt eql_pod
set_option maxHeartbeats 1000000 in
theorem inBounds_any (x : DPeer) (ea : Option Addr) (ec : Nat) (w : World) (hr : rdBlks w.heap.size w ea x.exc) :
    Calls Tryz.prog 218 #[.agg #[.int .i64 x.kind, .int .i64 x.need, .int .i64 x.ban, .int .i64 x.spaces, .int .i64 x.base, .int .i64 x.bits, .slice ea x.exc.length ec]] w fun e w' => e = .returned (.bool (selOk x.need x.ban && btw x.spaces 0 15 && blkOk ⟨x.base, x.bits⟩ && few x.exc 2 blkOk)) ∧ Below w.heap.size w w' := by
  have HR := hid hr
  clear hr
  go_enter Tryz.func218, Tryz.ntmps218
  cases hq1 : selOk x.need x.ban
  · go_wp2_with (first
      | (go_at_call 119; refine (selRight_any _ _ _).mono ?_; rintro e w1 ⟨rfl, hb1⟩; obtain ⟨hc1, hf1⟩ := bcell hb1; have hz1 := hb_lt hb1)
      | (go_at_call 63; refine (within_any _ _ _ _).mono ?_; rintro e w' ⟨rfl, rfl⟩)
      | (go_at_call 219; refine (blkRight_any ⟨x.base, x.bits⟩ _).mono ?_; rintro e w1 ⟨rfl, hb1⟩; obtain ⟨hc1, hf1⟩ := bcell hb1; have hz1 := hb_lt hb1)
      | (go_at_call 220; refine (fewBlk blkOk _ _ _ _ _ (rdBlks.to HR.out bel) (fun x w1 _ _ => blkRight_any x w1)).mono ?_; rintro e w1 ⟨rfl, hb1⟩; obtain ⟨hc1, hf1⟩ := bcell hb1; have hz1 := hb_lt hb1))
    go_ret
    exact ⟨by simp [Bool.and_true, hq1], bel⟩
  cases hq2 : btw x.spaces 0 15
  · go_wp2_with (first
      | (go_at_call 119; refine (selRight_any _ _ _).mono ?_; rintro e w1 ⟨rfl, hb1⟩; obtain ⟨hc1, hf1⟩ := bcell hb1; have hz1 := hb_lt hb1)
      | (go_at_call 63; refine (within_any _ _ _ _).mono ?_; rintro e w' ⟨rfl, rfl⟩)
      | (go_at_call 219; refine (blkRight_any ⟨x.base, x.bits⟩ _).mono ?_; rintro e w1 ⟨rfl, hb1⟩; obtain ⟨hc1, hf1⟩ := bcell hb1; have hz1 := hb_lt hb1)
      | (go_at_call 220; refine (fewBlk blkOk _ _ _ _ _ (rdBlks.to HR.out bel) (fun x w1 _ _ => blkRight_any x w1)).mono ?_; rintro e w1 ⟨rfl, hb1⟩; obtain ⟨hc1, hf1⟩ := bcell hb1; have hz1 := hb_lt hb1))
    go_ret
    exact ⟨by simp [Bool.and_true, hq1, hq2], bel⟩
  cases hq3 : blkOk ⟨x.base, x.bits⟩
  · go_wp2_with (first
      | (go_at_call 119; refine (selRight_any _ _ _).mono ?_; rintro e w1 ⟨rfl, hb1⟩; obtain ⟨hc1, hf1⟩ := bcell hb1; have hz1 := hb_lt hb1)
      | (go_at_call 63; refine (within_any _ _ _ _).mono ?_; rintro e w' ⟨rfl, rfl⟩)
      | (go_at_call 219; refine (blkRight_any ⟨x.base, x.bits⟩ _).mono ?_; rintro e w1 ⟨rfl, hb1⟩; obtain ⟨hc1, hf1⟩ := bcell hb1; have hz1 := hb_lt hb1)
      | (go_at_call 220; refine (fewBlk blkOk _ _ _ _ _ (rdBlks.to HR.out bel) (fun x w1 _ _ => blkRight_any x w1)).mono ?_; rintro e w1 ⟨rfl, hb1⟩; obtain ⟨hc1, hf1⟩ := bcell hb1; have hz1 := hb_lt hb1))
    go_ret
    exact ⟨by simp [Bool.and_true, hq1, hq2, hq3], bel⟩
  cases hq4 : few x.exc 2 blkOk
  · go_wp2_with (first
      | (go_at_call 119; refine (selRight_any _ _ _).mono ?_; rintro e w1 ⟨rfl, hb1⟩; obtain ⟨hc1, hf1⟩ := bcell hb1; have hz1 := hb_lt hb1)
      | (go_at_call 63; refine (within_any _ _ _ _).mono ?_; rintro e w' ⟨rfl, rfl⟩)
      | (go_at_call 219; refine (blkRight_any ⟨x.base, x.bits⟩ _).mono ?_; rintro e w1 ⟨rfl, hb1⟩; obtain ⟨hc1, hf1⟩ := bcell hb1; have hz1 := hb_lt hb1)
      | (go_at_call 220; refine (fewBlk blkOk _ _ _ _ _ (rdBlks.to HR.out bel) (fun x w1 _ _ => blkRight_any x w1)).mono ?_; rintro e w1 ⟨rfl, hb1⟩; obtain ⟨hc1, hf1⟩ := bcell hb1; have hz1 := hb_lt hb1))
    go_ret
    exact ⟨by simp [Bool.and_true, hq1, hq2, hq3, hq4], bel⟩
  go_wp2_with (first
    | (go_at_call 119; refine (selRight_any _ _ _).mono ?_; rintro e w1 ⟨rfl, hb1⟩; obtain ⟨hc1, hf1⟩ := bcell hb1; have hz1 := hb_lt hb1)
    | (go_at_call 63; refine (within_any _ _ _ _).mono ?_; rintro e w' ⟨rfl, rfl⟩)
    | (go_at_call 219; refine (blkRight_any ⟨x.base, x.bits⟩ _).mono ?_; rintro e w1 ⟨rfl, hb1⟩; obtain ⟨hc1, hf1⟩ := bcell hb1; have hz1 := hb_lt hb1)
    | (go_at_call 220; refine (fewBlk blkOk _ _ _ _ _ (rdBlks.to HR.out bel) (fun x w1 _ _ => blkRight_any x w1)).mono ?_; rintro e w1 ⟨rfl, hb1⟩; obtain ⟨hc1, hf1⟩ := bcell hb1; have hz1 := hb_lt hb1))
  go_ret
  exact ⟨by simp [Bool.and_true, hq1, hq2, hq3, hq4], bel⟩
theorem restPods_any (x : DPeer) (ea : Option Addr) (ec : Nat) (w : World) (hr : x.exc.length ≤ 4611686018427387904) :
    Calls Tryz.prog 224 #[.agg #[.int .i64 x.kind, .int .i64 x.need, .int .i64 x.ban, .int .i64 x.spaces, .int .i64 x.base, .int .i64 x.bits, .slice ea x.exc.length ec]] w fun e w' => e = .returned (.bool (decide (x.base = 0) && decide (x.bits = 0) && decide (x.exc.length = 0))) ∧ Below w.heap.size w w' := by
  cases h1 : (decide (x.base = 0) && decide (x.bits = 0))
  · go_enter Tryz.func224, Tryz.ntmps224
    go_wp2
    go_ret
    exact ⟨ret_bool (by rw [Bool.false_and]), bel⟩
  · have HL := hid (show decide (x.exc.length = 0) = ((x.exc.length : Int) == 0) by rw [ibeq]; congr 1; simp)
    go_enter Tryz.func224, Tryz.ntmps224
    go_wp2
    go_ret
    exact ⟨ret_bool (by rw [Bool.true_and, HL.out]), bel⟩
theorem restBlocks_any (x : DPeer) (ea : Option Addr) (ec : Nat) (w : World) :
    Calls Tryz.prog 232 #[.agg #[.int .i64 x.kind, .int .i64 x.need, .int .i64 x.ban, .int .i64 x.spaces, .int .i64 x.base, .int .i64 x.bits, .slice ea x.exc.length ec]] w fun e w' => e = .returned (.bool (decide (x.need = 0) && decide (x.ban = 0) && decide (x.spaces = 0))) ∧ Below w.heap.size w w' := by
  cases h1 : (decide (x.need = 0) && decide (x.ban = 0))
  · go_enter Tryz.func232, Tryz.ntmps232
    go_wp2
    go_ret
    exact ⟨ret_bool (by rw [Bool.false_and]), bel⟩
  · go_enter Tryz.func232, Tryz.ntmps232
    go_wp2
    go_ret
    exact ⟨ret_bool (by rw [Bool.true_and]; exact ibeq _ _), bel⟩
theorem kindOf_pods (x : DPeer) (ea : Option Addr) (ec : Nat) (w : World) (hk : x.kind = 1) :
    Calls Tryz.prog 172 #[.agg #[.int .i64 x.kind, .int .i64 x.need, .int .i64 x.ban, .int .i64 x.spaces, .int .i64 x.base, .int .i64 x.bits, .slice ea x.exc.length ec]] w fun e w' =>
      e = .returned (.tuple #[.iface 227 (.agg #[.int .i64 x.kind, .int .i64 x.need, .int .i64 x.ban, .int .i64 x.spaces, .int .i64 x.base, .int .i64 x.bits, .slice ea x.exc.length ec]), .bool true]) ∧ Below w.heap.size w w' := by
  have h1 : (x.kind == 1) = true := by simp [hk]
  clear hk
  go_enter Tryz.func172, Tryz.ntmps172
  go_wp2
  go_ret2
  exact ⟨rfl, bel⟩
theorem kindOf_blocks (x : DPeer) (ea : Option Addr) (ec : Nat) (w : World) (hk : x.kind = 2) :
    Calls Tryz.prog 172 #[.agg #[.int .i64 x.kind, .int .i64 x.need, .int .i64 x.ban, .int .i64 x.spaces, .int .i64 x.base, .int .i64 x.bits, .slice ea x.exc.length ec]] w fun e w' =>
      e = .returned (.tuple #[.iface 228 (.agg #[.int .i64 x.kind, .int .i64 x.need, .int .i64 x.ban, .int .i64 x.spaces, .int .i64 x.base, .int .i64 x.bits, .slice ea x.exc.length ec]), .bool true]) ∧ Below w.heap.size w w' := by
  have h1 : (x.kind == 1) = false := by simp [hk]
  have h2 : (x.kind == 2) = true := by simp [hk]
  clear hk
  go_enter Tryz.func172, Tryz.ntmps172
  go_wp2
  go_ret2
  exact ⟨rfl, bel⟩
theorem kindOf_none (x : DPeer) (ea : Option Addr) (ec : Nat) (w : World) (hk1 : ¬ x.kind = 1) (hk2 : ¬ x.kind = 2) :
    Calls Tryz.prog 172 #[.agg #[.int .i64 x.kind, .int .i64 x.need, .int .i64 x.ban, .int .i64 x.spaces, .int .i64 x.base, .int .i64 x.bits, .slice ea x.exc.length ec]] w fun e w' =>
      e = .returned (.tuple #[.nilIface, .bool false]) ∧ Below w.heap.size w w' := by
  have h1 : (x.kind == 1) = false := by simp [hk1]
  have h2 : (x.kind == 2) = false := by simp [hk2]
  clear hk1 hk2
  go_enter Tryz.func172, Tryz.ntmps172
  go_wp2
  go_ret2
  exact ⟨rfl, bel⟩
theorem met_in1 (c0 c1 c2 c3 c4 c5 c6 : Value) (w : World) : (method 379 227 (.agg #[c0, c1, c2, c3, c4, c5, c6]) "palisade/peer.inBounds").run Tryz.prog w = .ok (218, .agg #[c0, c1, c2, c3, c4, c5, c6]) w := by kernel_rfl
theorem met_in2 (c0 c1 c2 c3 c4 c5 c6 : Value) (w : World) : (method 379 228 (.agg #[c0, c1, c2, c3, c4, c5, c6]) "palisade/peer.inBounds").run Tryz.prog w = .ok (218, .agg #[c0, c1, c2, c3, c4, c5, c6]) w := by kernel_rfl
theorem met_re1 (c0 c1 c2 c3 c4 c5 c6 : Value) (w : World) : (method 379 227 (.agg #[c0, c1, c2, c3, c4, c5, c6]) "palisade/peer.restEmpty").run Tryz.prog w = .ok (224, .agg #[c0, c1, c2, c3, c4, c5, c6]) w := by kernel_rfl
theorem met_re2 (c0 c1 c2 c3 c4 c5 c6 : Value) (w : World) : (method 379 228 (.agg #[c0, c1, c2, c3, c4, c5, c6]) "palisade/peer.restEmpty").run Tryz.prog w = .ok (232, .agg #[c0, c1, c2, c3, c4, c5, c6]) w := by kernel_rfl
attribute [local go_sem ↓] met_in1 met_in2 met_re1 met_re2
theorem peerOk_pods (x : DPeer) (h : x.kind = 1) : peerOk x = ((selOk x.need x.ban && btw x.spaces 0 15 && blkOk ⟨x.base, x.bits⟩ && few x.exc 2 blkOk) && (decide (x.base = 0) && decide (x.bits = 0) && decide (x.exc.length = 0))) := by
  rw [peerOk, if_pos h]
  by_cases h1 : x.base = 0
  · by_cases h2 : x.bits = 0
    · by_cases h3 : x.exc.length = 0
      · have e : x.exc = [] := List.eq_nil_of_length_eq_zero h3
        have e2 : blkOk ⟨0, 0⟩ = true := by simp [blkOk, btw]
        rw [h1, h2, e2, e]
        simp [few]
      · simp [h3]
    · simp [h2]
  · simp [h1]
theorem peerOk_blocks (x : DPeer) (h : x.kind = 2) : peerOk x = ((selOk x.need x.ban && btw x.spaces 0 15 && blkOk ⟨x.base, x.bits⟩ && few x.exc 2 blkOk) && (decide (x.need = 0) && decide (x.ban = 0) && decide (x.spaces = 0))) := by
  rw [peerOk, if_neg (by omega)]
  by_cases h1 : x.need = 0
  · by_cases h2 : x.ban = 0
    · by_cases h3 : x.spaces = 0
      · have e1 : selOk 0 0 = true := by simp [selOk, btw]
        have e2 : btw 0 0 15 = true := by simp [btw]
        rw [h1, h2, h3, e1, e2]
        simp [h]
      · simp [h3]
    · simp [h2]
  · simp [h1]
theorem peerOk_none (x : DPeer) (h1 : ¬ x.kind = 1) (h2 : ¬ x.kind = 2) : peerOk x = false := by simp [peerOk, h1, h2]
set_option maxRecDepth 100000 in
theorem peerRight_any (x : DPeer) (ea : Option Addr) (ec : Nat) (w : World) (hr : rdBlks w.heap.size w ea x.exc) :
    Calls Tryz.prog 151 #[.agg #[.int .i64 x.kind, .int .i64 x.need, .int .i64 x.ban, .int .i64 x.spaces, .int .i64 x.base, .int .i64 x.bits, .slice ea x.exc.length ec]] w fun e w' => e = .returned (.bool (peerOk x)) ∧ Below w.heap.size w w' := by
  have HR := hid hr
  have hlen := hr.1
  clear hr
  by_cases hk : x.kind = 1
  · have HK := hid hk
    have HP := hid (peerOk_pods x hk)
    clear hk
    generalize hg1 : (selOk x.need x.ban && btw x.spaces 0 15 && blkOk ⟨x.base, x.bits⟩ && few x.exc 2 blkOk) = g1 at HP
    have HG := hid hg1
    clear hg1
    cases g1
    · have HF := hid (show peerOk x = false by rw [HP.out]; rfl)
      go_enter Tryz.func151, Tryz.ntmps151
      go_wp2_with (first
        | (go_at_call 172; refine (kindOf_pods _ _ _ _ HK.out).mono ?_; rintro e w1 ⟨rfl, hb1⟩; obtain ⟨hc1, hf1⟩ := bcell hb1; have hz1 := hb_lt hb1)
        | (go_at_call 218; refine (inBounds_any _ _ _ _ (rdBlks.to HR.out bel)).mono ?_; rw [HG.out]; rintro e w1 ⟨rfl, hb1⟩; obtain ⟨hc1, hf1⟩ := bcell hb1; have hz1 := hb_lt hb1))
      go_ret
      exact ⟨ret_bool (by rw [HF.out]), bel⟩
    · have HF := hid (show peerOk x = (decide (x.base = 0) && decide (x.bits = 0) && decide (x.exc.length = 0)) by rw [HP.out]; rfl)
      go_enter Tryz.func151, Tryz.ntmps151
      go_wp2_with (first
        | (go_at_call 172; refine (kindOf_pods _ _ _ _ HK.out).mono ?_; rintro e w1 ⟨rfl, hb1⟩; obtain ⟨hc1, hf1⟩ := bcell hb1; have hz1 := hb_lt hb1)
        | (go_at_call 218; refine (inBounds_any _ _ _ _ (rdBlks.to HR.out bel)).mono ?_; rw [HG.out]; rintro e w1 ⟨rfl, hb1⟩; obtain ⟨hc1, hf1⟩ := bcell hb1; have hz1 := hb_lt hb1)
        | (go_at_call 224; refine (restPods_any _ _ _ _ (by omega)).mono ?_; rintro e w1 ⟨rfl, hb1⟩; obtain ⟨hc1, hf1⟩ := bcell hb1; have hz1 := hb_lt hb1))
      go_ret
      exact ⟨ret_bool (by rw [HF.out]; simp), bel⟩
  by_cases hk2 : x.kind = 2
  · have HK := hid hk2
    have HP := hid (peerOk_blocks x hk2)
    clear hk hk2
    generalize hg1 : (selOk x.need x.ban && btw x.spaces 0 15 && blkOk ⟨x.base, x.bits⟩ && few x.exc 2 blkOk) = g1 at HP
    have HG := hid hg1
    clear hg1
    cases g1
    · have HF := hid (show peerOk x = false by rw [HP.out]; rfl)
      go_enter Tryz.func151, Tryz.ntmps151
      go_wp2_with (first
        | (go_at_call 172; refine (kindOf_blocks _ _ _ _ HK.out).mono ?_; rintro e w1 ⟨rfl, hb1⟩; obtain ⟨hc1, hf1⟩ := bcell hb1; have hz1 := hb_lt hb1)
        | (go_at_call 218; refine (inBounds_any _ _ _ _ (rdBlks.to HR.out bel)).mono ?_; rw [HG.out]; rintro e w1 ⟨rfl, hb1⟩; obtain ⟨hc1, hf1⟩ := bcell hb1; have hz1 := hb_lt hb1))
      go_ret
      exact ⟨ret_bool (by rw [HF.out]), bel⟩
    · have HF := hid (show peerOk x = (decide (x.need = 0) && decide (x.ban = 0) && decide (x.spaces = 0)) by rw [HP.out]; rfl)
      go_enter Tryz.func151, Tryz.ntmps151
      go_wp2_with (first
        | (go_at_call 172; refine (kindOf_blocks _ _ _ _ HK.out).mono ?_; rintro e w1 ⟨rfl, hb1⟩; obtain ⟨hc1, hf1⟩ := bcell hb1; have hz1 := hb_lt hb1)
        | (go_at_call 218; refine (inBounds_any _ _ _ _ (rdBlks.to HR.out bel)).mono ?_; rw [HG.out]; rintro e w1 ⟨rfl, hb1⟩; obtain ⟨hc1, hf1⟩ := bcell hb1; have hz1 := hb_lt hb1)
        | (go_at_call 232; refine (restBlocks_any _ _ _ _).mono ?_; rintro e w1 ⟨rfl, hb1⟩; obtain ⟨hc1, hf1⟩ := bcell hb1; have hz1 := hb_lt hb1))
      go_ret
      exact ⟨ret_bool (by rw [HF.out]), bel⟩
  · have HF := hid (peerOk_none x hk hk2)
    have HK1 := hid hk
    have HK2 := hid hk2
    clear hk hk2
    go_enter Tryz.func151, Tryz.ntmps151
    go_wp2_with (go_at_call 172; refine (kindOf_none _ _ _ _ HK1.out HK2.out).mono ?_; rintro e w1 ⟨rfl, hb1⟩; obtain ⟨hc1, hf1⟩ := bcell hb1; have hz1 := hb_lt hb1)
    go_ret
    exact ⟨ret_bool (by rw [HF.out]), bel⟩
end Go.Proofs.YtmkjlhplgcifiaaGreat
namespace Go.Proofs.YtmkjlhplgcifiaaGreat
open Go.ChangeShapes Go.WideShapes Go.ChangeAt Go.RowKit
set_option linter.unusedVariables false
set_option linter.unusedSimpArgs false
attribute [local simp] World.cell?_grow
attribute [local go_sem] World.cell?_grow eqg_blk std_blk eqg_pod std_pod eqg_sel std_sel eqg_prt std_prt
attribute [local go_sem ↓] eql_blk eql_sel neq_sel eql_prt eql_pod met_in1 met_in2 met_re1 met_re2
theorem mkFunc (fn : Fn) (first cap : Array Value) (w : World) : (Instr.makeFunc fn first cap).run Tryz.prog w = .ok (.func fn first cap) w := rfl
theorem cell_lt {w : World} {b o : Nat} {v : Value} (h : w.cell? ⟨b, o, none⟩ = some v) : b < w.heap.size := World.block_lt_of_cell? w ⟨b, o, none⟩ h
theorem cell_to {w w1 : World} {b o : Nat} {v : Value} (h : w.cell? ⟨b, o, none⟩ = some v) (hb : Below w.heap.size w w1) : w1.cell? ⟨b, o, none⟩ = some v := by
  rw [hb.cell (p := ⟨b, o, none⟩) (cell_lt h)]; exact h
theorem hasClo_blocks (x : DBlk) (ip : Int) (pb : Nat) (w : World) (hx : blkOk x = true) (h0 : 0 ≤ ip) (h1 : ip ≤ 4294967295) (hc : w.cell? ⟨pb, 0, none⟩ = some (.int .i64 ip)) :
    Calls Tryz.prog 234 #[.agg #[.int .i64 x.base, .int .i64 x.bits], .pointer (some ⟨pb, 0, none⟩)] w fun e w' => e = .returned (.bool (blkHas ip x)) ∧ Below w.heap.size w w' := by
  have HX := hid hx
  have hpb := cell_lt hc
  clear hx
  go_enter Tryz.func234, Tryz.ntmps234
  go_wp2_with (go_at_call 104; refine (blkHas_any _ _ _ HX.out h0 h1).mono ?_; rintro e w1 ⟨rfl, hb1⟩; obtain ⟨hc1, hf1⟩ := bcell hb1; have hz1 := hb_lt hb1)
  go_ret
  exact ⟨rfl, bel⟩
set_option maxHeartbeats 1000000 in
theorem hasBlocks_any (x : DPeer) (ea : Option Addr) (ec : Nat) (ip space : Int) (sa : Option Addr) (sn sc : Nat) (w : World) (hr : rdBlks w.heap.size w ea x.exc)
    (hx : blkOk ⟨x.base, x.bits⟩ = true) (he : x.exc.all blkOk = true) (h0 : 0 ≤ ip) (h1 : ip ≤ 4294967295) :
    Calls Tryz.prog 231 #[.agg #[.int .i64 x.kind, .int .i64 x.need, .int .i64 x.ban, .int .i64 x.spaces, .int .i64 x.base, .int .i64 x.bits, .slice ea x.exc.length ec], .int .i64 ip, .agg #[.int .i64 space, .slice sa sn sc]] w
      fun e w' => e = .returned (.bool (blkHas ip ⟨x.base, x.bits⟩ && !(x.exc.any (blkHas ip)))) ∧ Below w.heap.size w w' := by
  have HR := hid hr
  have HX := hid hx
  have HE := hid he
  have hmf := mkFunc
  clear hr hx he
  cases hq : blkHas ip ⟨x.base, x.bits⟩
  · go_enter Tryz.func231, Tryz.ntmps231
    go_wp2_with (go_at_call 234; refine (hasClo_blocks ⟨x.base, x.bits⟩ ip _ _ HX.out h0 h1 (by simp [go_sem])).mono ?_; rintro e w1 ⟨rfl, hb1⟩; obtain ⟨hc1, hf1⟩ := bcell hb1; have hz1 := hb_lt hb1)
    go_ret
    exact ⟨ret_bool (by rw [Bool.false_and]), bel⟩
  · go_enter Tryz.func231, Tryz.ntmps231
    go_wp2_with (first
      | (go_at_call 234; refine (hasClo_blocks ⟨x.base, x.bits⟩ ip _ _ HX.out h0 h1 (by simp [go_sem])).mono ?_; rintro e w1 ⟨rfl, hb1⟩; obtain ⟨hc1, hf1⟩ := bcell hb1; have hz1 := hb_lt hb1)
      | (go_at_call 235; refine (anyBlk (blkHas ip) _ _ _ _ _ (rdBlks.to HR.out bel) (fun y w2 hy hb2 => hasClo_blocks y ip _ w2 (List.all_eq_true.1 HE.out y hy) h0 h1 (cell_to (by simp [go_sem, hc1]) hb2))).mono ?_; rintro e w1 ⟨rfl, hb1⟩; obtain ⟨hc1, hf1⟩ := bcell hb1; have hz1 := hb_lt hb1))
    go_ret
    exact ⟨ret_bool (by rw [Bool.true_and]), bel⟩
end Go.Proofs.YtmkjlhplgcifiaaGreat
namespace Go
theorem World.cell?_alloc_there (w : World) (a : Addr) (o : Obj) (h : (w.cell? a).isSome = true) : (w.alloc o).cell? a = w.cell? a := by
  obtain ⟨u, hu⟩ := Option.isSome_iff_exists.1 h
  exact World.cell?_alloc_lt _ _ _ (World.block_lt_of_cell? w a hu)
end Go
namespace Go.Proofs.YtmkjlhplgcifiaaGreat
open Go.ChangeShapes Go.WideShapes Go.ChangeAt Go.RowKit
set_option linter.unusedVariables false
set_option linter.unusedSimpArgs false
attribute [local simp] World.cell?_grow World.cell?_alloc_there
attribute [local go_sem] World.cell?_grow World.cell?_alloc_there eqg_blk std_blk eqg_pod std_pod eqg_sel std_sel eqg_prt std_prt
attribute [local go_sem ↓] eql_blk eql_sel neq_sel eql_prt eql_pod met_in1 met_in2 met_re1 met_re2
def atV : Option DPod → Value
  | some p => .tuple #[.agg #[.int .i64 p.host, .int .i64 p.ip, .int .i64 p.space, .int .i64 p.labels], .bool true]
  | none => .tuple #[.agg #[.int .i64 0, .int .i64 0, .int .i64 0, .int .i64 0], .bool false]
theorem podAt_at {l : List DPod} {k : Nat} {x : DPod} {ip : Int} (h : l[k]? = some x) (hb : ∀ j y, j < k → l[j]? = some y → ¬ y.ip = ip) (hx : x.ip = ip) : podAt l ip = some x := by
  unfold podAt
  rw [List.find?_eq_some_iff_getElem]
  obtain ⟨hk, he⟩ := List.getElem?_eq_some_iff.1 h
  refine ⟨by simp [hx], k, hk, he, fun j hj => ?_⟩
  have := hb j l[j] hj (by simp)
  simp [this]
theorem podAt_none {l : List DPod} {ip : Int} (hb : ∀ j y, j < l.length → l[j]? = some y → ¬ y.ip = ip) : podAt l ip = none := by
  unfold podAt
  rw [List.find?_eq_none]
  intro x hx
  obtain ⟨j, hj, he⟩ := List.getElem_of_mem hx
  have := hb j x hj (by rw [List.getElem?_eq_getElem hj, he])
  simp [this]
set_option maxHeartbeats 1000000 in
theorem at_any (a : Option Addr) (cap : Nat) (l : List DPod) (ip : Int) (w : World) (hl : rdPods w.heap.size w a l) :
    Calls Tryz.prog 93 #[.slice a l.length cap, .int .i64 ip] w fun e w' => e = .returned (atV (podAt l ip)) ∧ Below w.heap.size w w' := by
  obtain ⟨hlen, hl⟩ := hl
  have HL := hid hl
  clear hl
  go_enter Tryz.func93, Tryz.ntmps93
  go_wp2
  go_loopw [10] (fun i wr => ∃ k : Nat, k ≤ l.length ∧ i = .int .i64 k ∧ (∀ j y, j < k → l[j]? = some y → ¬ y.ip = ip) ∧ Below (w.alloc (Obj.cells #[.int .i64 0, .int .i64 0, .int .i64 0, .int .i64 0] 54)).heap.size (w.alloc (Obj.cells #[.int .i64 0, .int .i64 0, .int .i64 0, .int .i64 0] 54)) wr) (fun i _ => l.length - (intOf i).toNat)
  case atStart => exact ⟨0, Nat.zero_le _, rfl, fun j y hj => absurd hj (Nat.not_lt_zero _), Below.refl _ _⟩
  case round =>
    obtain ⟨k, hk, rfl, hall, hbw⟩ := hrel
    have HA := hid hall
    clear hall
    obtain ⟨hc, hf⟩ := bcell hbw
    have hz := hb_lt hbw
    have HW := hid hbw
    have hB : Below w.heap.size w wr := (Below.refl _ _ |>.alloc (Nat.le_refl _) _).trans (hbw.mono (by simp))
    by_cases hlt : k < l.length
    · obtain ⟨x, hxk⟩ : ∃ x, l[k]? = some x := ⟨l[k], by simp [hlt]⟩
      have HX := hid hxk
      clear hxk
      obtain ⟨b, off, rfl, hb, c0, c1, c2, c3⟩ := HL.out k x HX.out
      have d0 := cell_to c0 hB
      have d1 := cell_to c1 hB
      have d2 := cell_to c2 hB
      have d3 := cell_to c3 hB
      have z0 : wr.cell? ⟨w.heap.size, 0, none⟩ = some (.int .i64 0) := cell_to (by simp [go_sem]) HW.out
      have z1 : wr.cell? ⟨w.heap.size, 1, none⟩ = some (.int .i64 0) := cell_to (by simp [go_sem]) HW.out
      have z2 : wr.cell? ⟨w.heap.size, 2, none⟩ = some (.int .i64 0) := cell_to (by simp [go_sem]) HW.out
      have z3 : wr.cell? ⟨w.heap.size, 3, none⟩ = some (.int .i64 0) := cell_to (by simp [go_sem]) HW.out
      clear c0 c1 c2 c3 hc
      cases hx : (x.ip == ip)
      · go_wp2
        exact ⟨⟨k + 1, by omega, by go_num, fun j y hj hy => by
            rcases Nat.lt_succ_iff_lt_or_eq.1 hj with h | h
            · exact HA.out j y h hy
            · subst h
              rw [HX.out] at hy
              cases hy
              simpa using hx, bel⟩, by simp [intOf]; omega⟩
      · have HF := hid (podAt_at HX.out HA.out (by simpa using hx))
        go_wp2
        rw [HF.out]
        exact bodyPost_ret (v := .tuple #[.agg #[.int .i64 x.host, .int .i64 x.ip, .int .i64 x.space, .int .i64 x.labels], .bool true]) (by simp [results, Tryz.results93, go_sem, hz, z0, z1, z2, z3]) rfl ⟨rfl, Ext.alloc ((((hB.setCell (Nat.le_refl _) _).setCell (Nat.le_refl _) _).setCell (Nat.le_refl _) _).setCell (Nat.le_refl _) _) _⟩
    · have HF := hid (podAt_none (l := l) (ip := ip) (fun j y hj => HA.out j y (by omega)))
      have z0 : wr.cell? ⟨w.heap.size, 0, none⟩ = some (.int .i64 0) := cell_to (by simp [go_sem]) HW.out
      have z1 : wr.cell? ⟨w.heap.size, 1, none⟩ = some (.int .i64 0) := cell_to (by simp [go_sem]) HW.out
      have z2 : wr.cell? ⟨w.heap.size, 2, none⟩ = some (.int .i64 0) := cell_to (by simp [go_sem]) HW.out
      have z3 : wr.cell? ⟨w.heap.size, 3, none⟩ = some (.int .i64 0) := cell_to (by simp [go_sem]) HW.out
      clear hc
      go_wp2
      rw [HF.out]
      exact bodyPost_ret (v := .tuple #[.agg #[.int .i64 0, .int .i64 0, .int .i64 0, .int .i64 0], .bool false]) (by simp [results, Tryz.results93, go_sem, hz, z0, z1, z2, z3]) rfl ⟨rfl, ((((hB.setCell (Nat.le_refl _) _).setCell (Nat.le_refl _) _).setCell (Nat.le_refl _) _).setCell (Nat.le_refl _) _)⟩
theorem taken_any (a : Option Addr) (cap : Nat) (l : List DPod) (ip : Int) (w : World) (hl : rdPods w.heap.size w a l) :
    Calls Tryz.prog 68 #[.slice a l.length cap, .int .i64 ip] w fun e w' => e = .returned (.bool (podAt l ip).isSome) ∧ Below w.heap.size w w' := by
  have HL := hid hl
  clear hl
  cases hp : podAt l ip with
  | none =>
    have HP := hid hp
    clear hp
    go_enter Tryz.func68, Tryz.ntmps68
    go_wp2_with (go_at_call 93; refine (at_any _ _ l _ _ HL.out).mono ?_; rw [HP.out, atV]; rintro e w1 ⟨rfl, hb1⟩; obtain ⟨hc1, hf1⟩ := bcell hb1; have hz1 := hb_lt hb1)
    go_ret
    exact ⟨rfl, bel⟩
  | some p =>
    have HP := hid hp
    clear hp
    go_enter Tryz.func68, Tryz.ntmps68
    go_wp2_with (go_at_call 93; refine (at_any _ _ l _ _ HL.out).mono ?_; rw [HP.out, atV]; rintro e w1 ⟨rfl, hb1⟩; obtain ⟨hc1, hf1⟩ := bcell hb1; have hz1 := hb_lt hb1)
    go_ret
    exact ⟨rfl, bel⟩
end Go.Proofs.YtmkjlhplgcifiaaGreat
namespace Go.Proofs.YtmkjlhplgcifiaaGreat
open Go.ChangeShapes Go.WideShapes Go.ChangeAt Go.RowKit
set_option linter.unusedVariables false
set_option linter.unusedSimpArgs false
theorem oflat_len {α : Type} {enc : α → List Value} {k : Nat} (hk : ∀ x, (enc x).length = k) : ∀ l : List α, (l.flatMap enc).length = l.length * k
  | [] => by simp
  | x :: l => by rw [List.flatMap_cons, List.length_append, hk, oflat_len hk l, List.length_cons, Nat.add_mul]; omega
theorem oflat_get {α : Type} {enc : α → List Value} {k : Nat} (hk : ∀ x, (enc x).length = k) : ∀ (l : List α) (i : Nat) (x : α) (j : Nat), l[i]? = some x → j < k → (l.flatMap enc)[i * k + j]? = (enc x)[j]?
  | [], i, x, j, h, _ => by simp at h
  | y :: l, 0, x, j, h, hj => by
    simp at h; subst h
    rw [List.flatMap_cons, List.getElem?_append_left (by rw [hk]; omega)]; simp
  | y :: l, i + 1, x, j, h, hj => by
    rw [List.flatMap_cons, List.getElem?_append_right (by rw [hk, Nat.add_mul]; omega), hk]
    have := oflat_get hk l i x j (by simpa using h) hj
    rw [← this]; congr 1; rw [Nat.add_mul]; omega
theorem own_to {w w1 : World} {base : Nat} {e : TypeId} {size : Nat} {v : Value} {n : Nat} {xs : List Value} (h : w.ownsRow base e size v n xs) (hb : Below w.heap.size w w1) : w1.ownsRow base e size v n xs := by
  obtain ⟨h1, h2⟩ := h
  refine ⟨h1, ?_⟩
  rcases h2 with h2 | ⟨g, cap, cur, a, b, c, d⟩
  · exact .inl h2
  · refine .inr ⟨g, cap, cur, a, b, ?_, d⟩
    have hg : g < w.heap.size := by
      rcases Nat.lt_or_ge g w.heap.size with h | h
      · exact h
      · rw [Array.getElem?_eq_none h] at c; cases c
    rw [hb.block g hg]; exact c
theorem own_below {B : Nat} {w W w3 : World} {e : TypeId} {size : Nat} {v : Value} {n : Nat} {xs : List Value} (hb : Below B w W) (hB : B ≤ W.heap.size) (ho : W.ownsRow B e size v n xs) (hg : W.grownBy w3 v.ownBlock) : Below B w w3 :=
  Below.grown hb hg hB (fun j hj => (ho.lt _ hj).1)
theorem own_slice {w : World} {base : Nat} {e : TypeId} {size : Nat} {v : Value} {n : Nat} {xs : List Value} (h : w.ownsRow base e size v n xs) :
    ∃ a c, v = .slice a n c ∧ n ≤ c ∧ ∀ j u, xs[j]? = some u → ∃ b, a = some ⟨b, 0, none⟩ ∧ base ≤ b ∧ b < w.heap.size ∧ w.cell? ⟨b, j, none⟩ = some u := by
  have h0 := h
  obtain ⟨h1, h2⟩ := h
  rcases h2 with ⟨rfl, rfl⟩ | ⟨g, cap, cur, rfl, b, c, d, _⟩
  · exact ⟨none, 0, rfl, Nat.le_refl _, fun j u hj => by rw [List.length_eq_zero_iff.1 (by omega : xs.length = 0)] at hj; simp at hj⟩
  · refine ⟨_, _, rfl, d, fun j u hj => ⟨g, rfl, b, (h0.lt g rfl).2, ?_⟩⟩
    have := h0.cells (g := g) rfl j u hj
    rw [show ((⟨g, 0, none⟩ : Addr).add j) = ⟨g, j, none⟩ by unfold Addr.add; split <;> simp_all] at this
    exact this
theorem own_rd {α : Type} {w : World} {base : Nat} {e : TypeId} {k bytes : Nat} {v : Value} {l : List α} {enc : α → List Value} {E : Nat → World → Nat → Nat → α → Prop} (hk : ∀ x, (enc x).length = k)
    (h : w.ownsRow base e k v l.length (l.flatMap enc)) (hp : 0 < k) (hy : l.length * bytes ≤ 140737488351232)
    (hE : ∀ b o x, x ∈ l → b < w.heap.size → (∀ j u, (enc x)[j]? = some u → w.cell? ⟨b, o + j, none⟩ = some u) → E w.heap.size w b o x) :
    ∃ a c, v = .slice a l.length c ∧ l.length ≤ c ∧ RdSl w.heap.size w k bytes E a l := by
  obtain ⟨a, c, rfl, hc, hcell⟩ := own_slice h
  refine ⟨a, c, rfl, hc, hy, fun i x hx => ?_⟩
  have h0 : (enc x)[0]? ≠ none := by rw [List.getElem?_eq_getElem (by rw [hk]; exact hp)]; simp
  obtain ⟨u0, hu0⟩ := Option.ne_none_iff_exists'.1 h0
  obtain ⟨b, rfl, _, hb, _⟩ := hcell _ u0 ((oflat_get hk l i x 0 hx hp).trans hu0)
  refine ⟨b, 0, rfl, hb, hE _ _ _ (List.mem_of_getElem? hx) hb fun j u hj => ?_⟩
  have hjk : j < k := by rw [← hk x]; exact (List.getElem?_eq_some_iff.1 hj).1
  obtain ⟨b', e', _, _, hc'⟩ := hcell _ u ((oflat_get hk l i x j hx hjk).trans hj)
  cases e'
  rw [Nat.zero_add]; exact hc'
theorem cell_new_list (w : World) (cs : List Value) (t : TypeId) : ∀ j u, cs[j]? = some u → (w.alloc (.cells cs.toArray t)).cell? ((⟨w.heap.size, 0, none⟩ : Addr).add j) = some u := by
  intro j u hj
  rw [show ((⟨w.heap.size, 0, none⟩ : Addr).add j) = ⟨w.heap.size, j, none⟩ by unfold Addr.add; split <;> simp_all]
  simp [hj]
def encPod (p : DPod) : List Value := [.int .i64 p.host, .int .i64 p.ip, .int .i64 p.space, .int .i64 p.labels]
def encBlk (p : DBlk) : List Value := [.int .i64 p.base, .int .i64 p.bits]
theorem own_pods {w : World} {base : Nat} {e : TypeId} {v : Value} {l : List DPod} (h : w.ownsRow base e 4 v l.length (l.flatMap encPod)) (hy : l.length * 32 ≤ 140737488351232) : ∃ a c, v = .slice a l.length c ∧ l.length ≤ c ∧ rdPods w.heap.size w a l :=
  own_rd (fun _ => rfl) h (by decide) hy fun b o x _ _ hc => ⟨hc 0 _ rfl, hc 1 _ rfl, hc 2 _ rfl, hc 3 _ rfl⟩
theorem own_blks {w : World} {base : Nat} {e : TypeId} {v : Value} {l : List DBlk} (h : w.ownsRow base e 2 v l.length (l.flatMap encBlk)) (hy : l.length * 16 ≤ 140737488351232) : ∃ a c, v = .slice a l.length c ∧ l.length ≤ c ∧ rdBlks w.heap.size w a l :=
  own_rd (fun _ => rfl) h (by decide) hy fun b o x _ _ hc => ⟨hc 0 _ rfl, hc 1 _ rfl⟩
structure RPol where
  d : DPol
  o : Value
  i : Value
def encPol (p : RPol) : List Value := [.int .i64 p.d.space, .int .i64 p.d.need, .int .i64 p.d.ban, .int .i64 p.d.ways, p.o, p.i]
def RPol.ok (B : Nat) (w : World) (p : RPol) : Prop := (∃ a c, p.o = .slice a p.d.outs.length c ∧ rdRules B w a p.d.outs) ∧ ∃ a c, p.i = .slice a p.d.ins.length c ∧ rdRules B w a p.d.ins
theorem own_pols {w0 w : World} {base : Nat} {e : TypeId} {v : Value} {l : List RPol} (h : w.ownsRow base e 6 v l.length (l.flatMap encPol)) (hy : l.length * 80 ≤ 140737488351232) (hb : Below w0.heap.size w0 w) (hok : ∀ p ∈ l, p.ok w0.heap.size w0) :
    ∃ a c, v = .slice a l.length c ∧ l.length ≤ c ∧ rdPols w.heap.size w a (l.map (·.d)) := by
  obtain ⟨a, c, e, hc, hr⟩ := own_rd (k := 6) (E := fun B w b o (x : RPol) => ePol B w b o x.d) (bytes := 80) (fun _ => rfl) h (by decide) hy fun b o x hx _ hc => by
    obtain ⟨⟨oa, oc, ho, hro⟩, ia, ic, hi, hri⟩ := hok x hx
    exact ⟨hc 0 _ rfl, hc 1 _ rfl, hc 2 _ rfl, hc 3 _ rfl, ⟨oa, oc, by rw [← ho]; exact hc 4 _ rfl, rdRules.ext hb hb.size hro⟩, ia, ic, by rw [← hi]; exact hc 5 _ rfl, rdRules.ext hb hb.size hri⟩
  refine ⟨a, c, e, hc, by simpa using hr.1, fun i x hx => ?_⟩
  rw [List.getElem?_map] at hx
  obtain ⟨y, hy, rfl⟩ := Option.map_eq_some_iff.1 hx
  exact hr.2 i y hy
theorem take_filter {α : Type} {l : List α} {f : α → Bool} {k : Nat} {x : α} (h : l[k]? = some x) (hf : f x = true) : (l.take (k + 1)).filter f = (l.take k).filter f ++ [x] := by
  rw [List.take_add_one, h]; simp [hf]
theorem take_filter' {α : Type} {l : List α} {f : α → Bool} {k : Nat} {x : α} (h : l[k]? = some x) (hf : f x = false) : (l.take (k + 1)).filter f = (l.take k).filter f := by
  rw [List.take_add_one, h]; simp [hf]
theorem filter_le {α : Type} (l : List α) (f : α → Bool) (k : Nat) : ((l.take k).filter f).length ≤ k := Nat.le_trans (List.length_filter_le _ _) (by rw [List.length_take]; omega)
end Go.Proofs.YtmkjlhplgcifiaaGreat
