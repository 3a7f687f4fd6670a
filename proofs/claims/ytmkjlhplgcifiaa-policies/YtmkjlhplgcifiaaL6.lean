/-
  Peers: which addresses one has.
-/
import Derived.Test.YtmkjlhplgcifiaaL5
namespace Go.Proofs.Ytmkjlhplgcifiaa
open Go.ChangeShapes Go.WideShapes Go.ChangeAt Go.RowKit
attribute [local simp] World.cell?_grow
attribute [local go_sem] World.cell?_grow
attribute [local go_sem] eqg_blk std_blk eqg_pod std_pod eqg_sel std_sel eqg_prt std_prt
attribute [local go_sem ↓] eql_blk eql_sel neq_sel eql_prt eql_pod
attribute [local go_sem ↓] met_in1 met_in2 met_re1 met_re2
set_option linter.unusedVariables false
set_option linter.unusedSimpArgs false

theorem mkFunc (fn : Fn) (first cap : Array Value) (w : World) : (Instr.makeFunc fn first cap).run Try.prog w = .ok (.func fn first cap) w := rfl

theorem cell_lt {w : World} {b o : Nat} {v : Value} (h : w.cell? ⟨b, o, none⟩ = some v) : b < w.heap.size := World.block_lt_of_cell? w ⟨b, o, none⟩ h
theorem cell_to {w w1 : World} {b o : Nat} {v : Value} (h : w.cell? ⟨b, o, none⟩ = some v) (hb : Below w.heap.size w w1) : w1.cell? ⟨b, o, none⟩ = some v := by
  rw [hb.cell (p := ⟨b, o, none⟩) (cell_lt h)]; exact h

theorem hasClo_blocks (x : DBlk) (ip : Int) (pb : Nat) (w : World) (hx : blkOk x = true) (h0 : 0 ≤ ip) (h1 : ip ≤ 4294967295) (hc : w.cell? ⟨pb, 0, none⟩ = some (.int .i64 ip)) :
    Calls Try.prog 116 #[.agg #[.int .i64 x.base, .int .i64 x.bits], .pointer (some ⟨pb, 0, none⟩)] w fun e w' => e = .returned (.bool (blkHas ip x)) ∧ Below w.heap.size w w' := by
  have HX := hid hx
  have hpb := cell_lt hc
  clear hx
  go_enter Try.func116, Try.ntmps116
  go_wp2_with (go_at_call 117; refine (blkHas_any _ _ _ HX.out h0 h1).mono ?_; rintro e w1 ⟨rfl, hb1⟩; obtain ⟨hc1, hf1⟩ := bcell hb1; have hz1 := hb_lt hb1)
  go_ret
  exact ⟨rfl, (by repeat (first | exact Below.refl _ _ | assumption | apply Ext.alloc | apply Ext.drewN | apply Ext.drew | refine Ext.trans ?_ (by assumption)))⟩

set_option maxHeartbeats 1000000 in
theorem hasBlocks_any (x : DPeer) (ea : Option Addr) (ec : Nat) (ip space : Int) (sa : Option Addr) (sn sc : Nat) (w : World) (hr : rdBlks w.heap.size w ea x.exc)
    (hx : blkOk ⟨x.base, x.bits⟩ = true) (he : x.exc.all blkOk = true) (h0 : 0 ≤ ip) (h1 : ip ≤ 4294967295) :
    Calls Try.prog 114 #[.agg #[.int .i64 x.kind, .int .i64 x.need, .int .i64 x.ban, .int .i64 x.spaces, .int .i64 x.base, .int .i64 x.bits, .slice ea x.exc.length ec], .int .i64 ip, .agg #[.int .i64 space, .slice sa sn sc]] w
      fun e w' => e = .returned (.bool (blkHas ip ⟨x.base, x.bits⟩ && !(x.exc.any (blkHas ip)))) ∧ Below w.heap.size w w' := by
  have HR := hid hr
  have HX := hid hx
  have HE := hid he
  have hmf := mkFunc
  clear hr hx he
  cases hq : blkHas ip ⟨x.base, x.bits⟩
  · go_enter Try.func114, Try.ntmps114
    go_wp2_with (go_at_call 116; refine (hasClo_blocks ⟨x.base, x.bits⟩ ip _ _ HX.out h0 h1 (by simp [go_sem])).mono ?_; rintro e w1 ⟨rfl, hb1⟩; obtain ⟨hc1, hf1⟩ := bcell hb1; have hz1 := hb_lt hb1)
    go_ret
    exact ⟨ret_bool (by rw [Bool.false_and]), (by repeat (first | exact Below.refl _ _ | assumption | apply Ext.alloc | apply Ext.drewN | apply Ext.drew | refine Ext.trans ?_ (by assumption)))⟩
  · go_enter Try.func114, Try.ntmps114
    go_wp2_with (first
      | (go_at_call 116; refine (hasClo_blocks ⟨x.base, x.bits⟩ ip _ _ HX.out h0 h1 (by simp [go_sem])).mono ?_; rintro e w1 ⟨rfl, hb1⟩; obtain ⟨hc1, hf1⟩ := bcell hb1; have hz1 := hb_lt hb1)
      | (go_at_call 118; refine (anyBlk (blkHas ip) _ _ _ _ _ (rdBlks.to HR.out (by repeat (first | exact Below.refl _ _ | assumption | apply Ext.alloc | apply Ext.drewN | apply Ext.drew | refine Ext.trans ?_ (by assumption)))) (fun y w2 hy hb2 => hasClo_blocks y ip _ w2 (List.all_eq_true.1 HE.out y hy) h0 h1 (cell_to (by simp [go_sem, hc1]) hb2))).mono ?_; rintro e w1 ⟨rfl, hb1⟩; obtain ⟨hc1, hf1⟩ := bcell hb1; have hz1 := hb_lt hb1))
    go_ret
    exact ⟨ret_bool (by rw [Bool.true_and]), (by repeat (first | exact Below.refl _ _ | assumption | apply Ext.alloc | apply Ext.drewN | apply Ext.drew | refine Ext.trans ?_ (by assumption)))⟩

end Go.Proofs.Ytmkjlhplgcifiaa
