/-
  The little cluster.
  Rules and policies: what fits, what applies, what is let go.
-/
import Derived.Test.YtmkjlhplgcifiaaGreatQ05
import Derived.Test.YtmkjlhplgcifiaaGreatQ08
import Derived.Test.YtmkjlhplgcifiaaGreatQ09
namespace Go.Proofs.YtmkjlhplgcifiaaGreat
open Go.ChangeShapes Go.WideShapes Go.ChangeAt Go.RowKit
attribute [local simp] World.cell?_grow
attribute [local go_sem] World.cell?_grow
attribute [local simp] World.cell?_alloc_there
attribute [local go_sem] World.cell?_alloc_there
attribute [local go_sem] eqg_blk std_blk eqg_pod std_pod eqg_sel std_sel eqg_prt std_prt
attribute [local go_sem ↓] eql_blk eql_sel neq_sel eql_prt eql_pod
attribute [local go_sem ↓] met_in1 met_in2 met_re1 met_re2
set_option linter.unusedVariables false
set_option linter.unusedSimpArgs false

def litClu : DClu := ⟨[⟨0, 5, 0, 1⟩, ⟨1, 6, 0, 2⟩], [⟨0, 2, 0, 2, [], [⟨[⟨1, 1, 0, 0, 0, 0, []⟩], [⟨1, 80, 90⟩]⟩]⟩]⟩

theorem rd_nil {α : Type} (B : Nat) (w : World) (sz bytes : Nat) (E : Nat → World → Nat → Nat → α → Prop) (a : Option Addr) : RdSl B w sz bytes E a ([] : List α) := ⟨by simp, fun i x hx => by simp at hx⟩
theorem rd_one {α : Type} {B : Nat} {w : World} {sz bytes : Nat} {E : Nat → World → Nat → Nat → α → Prop} {b off : Nat} {x : α} (hy : bytes ≤ 140737488351232) (hb : b < B) (h : E B w b off x) : RdSl B w sz bytes E (some ⟨b, off, none⟩) [x] := by
  refine ⟨by simpa using hy, fun i y hy' => ?_⟩
  cases i with
  | zero =>
    cases hy'
    exact ⟨b, off, rfl, hb, by rw [Nat.zero_mul, Nat.add_zero]; exact h⟩
  | succ i => simp at hy'
theorem rd_two {α : Type} {B : Nat} {w : World} {sz bytes : Nat} {E : Nat → World → Nat → Nat → α → Prop} {b off : Nat} {x y : α} (hy : 2 * bytes ≤ 140737488351232) (hb : b < B) (h : E B w b off x) (h2 : E B w b (off + sz) y) : RdSl B w sz bytes E (some ⟨b, off, none⟩) [x, y] := by
  refine ⟨by simpa using hy, fun i z hz => ?_⟩
  cases i with
  | zero =>
    cases hz
    exact ⟨b, off, rfl, hb, by rw [Nat.zero_mul, Nat.add_zero]; exact h⟩
  | succ i =>
    cases i with
    | zero =>
      cases hz
      exact ⟨b, off, rfl, hb, by rw [Nat.zero_add, Nat.one_mul]; exact h2⟩
    | succ i => simp at hz

set_option maxRecDepth 100000 in
set_option maxHeartbeats 4000000 in
theorem little_any (w : World) :
    Calls Tryz.prog 29 #[] w fun e w' => ∃ pa qa, e = .returned (.agg #[.slice pa 2 2, .slice qa 1 1]) ∧ rdPods w'.heap.size w' pa litClu.pods ∧ rdPols w'.heap.size w' qa litClu.pols ∧ Below w.heap.size w w' := by
  go_enter Tryz.func29, Tryz.ntmps29
  go_wp2
  generalize hW : ((((((((w.alloc (Obj.cells #[.slice (some ⟨w.heap.size + 1 + 1 + 1 + 1 + 1 + 1, 0, none⟩) 2 2, .slice (some ⟨w.heap.size + 1 + 1 + 1 + 1 + 1 + 1 + 1, 0, none⟩) 1 1] 28)).alloc (Obj.cells #[.int .i64 1, .int .i64 1, .int .i64 0, .int .i64 0, .int .i64 0, .int .i64 0, .slice none 0 0] 69)).alloc (Obj.cells #[.int .i64 1, .int .i64 80, .int .i64 90] 109)).alloc (Obj.cells #[.slice (some ⟨w.heap.size + 1, 0, none⟩) 1 1, .slice (some ⟨w.heap.size + 1 + 1, 0, none⟩) 1 1] 64)).alloc (Obj.cells #[.slice (some ⟨w.heap.size + 1, 0, none⟩) 1 1, .slice (some ⟨w.heap.size + 1 + 1, 0, none⟩) 1 1] 64)).alloc (Obj.cells #[.int .i64 0, .int .i64 2, .int .i64 0, .int .i64 2, .slice none 0 0, .slice (some ⟨w.heap.size + 1 + 1 + 1 + 1, 0, none⟩) 1 1] 59)).alloc (Obj.cells #[.int .i64 0, .int .i64 5, .int .i64 0, .int .i64 1, .int .i64 1, .int .i64 6, .int .i64 0, .int .i64 2] 54)).alloc (Obj.cells #[.int .i64 0, .int .i64 2, .int .i64 0, .int .i64 2, .slice none 0 0, .slice (some ⟨w.heap.size + 1 + 1 + 1 + 1, 0, none⟩) 1 1] 59)) = W
  have hs : W.heap.size = w.heap.size + 8 := by rw [← hW]; simp
  have HB : Below w.heap.size w W := by rw [← hW]; exact (by repeat (first | exact Below.refl _ _ | assumption | apply Ext.alloc | apply Ext.drewN | apply Ext.drew | refine Ext.trans ?_ (by assumption)))
  have p0 : W.cell? ⟨w.heap.size + 1 + 1 + 1 + 1 + 1 + 1, 0, none⟩ = some (.int .i64 0) := by rw [← hW]; simp [go_sem]
  have p1 : W.cell? ⟨w.heap.size + 1 + 1 + 1 + 1 + 1 + 1, 1, none⟩ = some (.int .i64 5) := by rw [← hW]; simp [go_sem]
  have p2 : W.cell? ⟨w.heap.size + 1 + 1 + 1 + 1 + 1 + 1, 2, none⟩ = some (.int .i64 0) := by rw [← hW]; simp [go_sem]
  have p3 : W.cell? ⟨w.heap.size + 1 + 1 + 1 + 1 + 1 + 1, 3, none⟩ = some (.int .i64 1) := by rw [← hW]; simp [go_sem]
  have p4 : W.cell? ⟨w.heap.size + 1 + 1 + 1 + 1 + 1 + 1, 4, none⟩ = some (.int .i64 1) := by rw [← hW]; simp [go_sem]
  have p5 : W.cell? ⟨w.heap.size + 1 + 1 + 1 + 1 + 1 + 1, 5, none⟩ = some (.int .i64 6) := by rw [← hW]; simp [go_sem]
  have p6 : W.cell? ⟨w.heap.size + 1 + 1 + 1 + 1 + 1 + 1, 6, none⟩ = some (.int .i64 0) := by rw [← hW]; simp [go_sem]
  have p7 : W.cell? ⟨w.heap.size + 1 + 1 + 1 + 1 + 1 + 1, 7, none⟩ = some (.int .i64 2) := by rw [← hW]; simp [go_sem]
  have q0 : W.cell? ⟨w.heap.size + 1 + 1 + 1 + 1 + 1 + 1 + 1, 0, none⟩ = some (.int .i64 0) := by rw [← hW]; simp [go_sem]
  have q1 : W.cell? ⟨w.heap.size + 1 + 1 + 1 + 1 + 1 + 1 + 1, 1, none⟩ = some (.int .i64 2) := by rw [← hW]; simp [go_sem]
  have q2 : W.cell? ⟨w.heap.size + 1 + 1 + 1 + 1 + 1 + 1 + 1, 2, none⟩ = some (.int .i64 0) := by rw [← hW]; simp [go_sem]
  have q3 : W.cell? ⟨w.heap.size + 1 + 1 + 1 + 1 + 1 + 1 + 1, 3, none⟩ = some (.int .i64 2) := by rw [← hW]; simp [go_sem]
  have q4 : W.cell? ⟨w.heap.size + 1 + 1 + 1 + 1 + 1 + 1 + 1, 4, none⟩ = some (.slice none 0 0) := by rw [← hW]; simp [go_sem]
  have q5 : W.cell? ⟨w.heap.size + 1 + 1 + 1 + 1 + 1 + 1 + 1, 5, none⟩ = some (.slice (some ⟨w.heap.size + 1 + 1 + 1 + 1, 0, none⟩) 1 1) := by rw [← hW]; simp [go_sem]
  have r0 : W.cell? ⟨w.heap.size + 1 + 1 + 1 + 1, 0, none⟩ = some (.slice (some ⟨w.heap.size + 1, 0, none⟩) 1 1) := by rw [← hW]; simp [go_sem]
  have r1 : W.cell? ⟨w.heap.size + 1 + 1 + 1 + 1, 1, none⟩ = some (.slice (some ⟨w.heap.size + 1 + 1, 0, none⟩) 1 1) := by rw [← hW]; simp [go_sem]
  have e0 : W.cell? ⟨w.heap.size + 1, 0, none⟩ = some (.int .i64 1) := by rw [← hW]; simp [go_sem]
  have e1 : W.cell? ⟨w.heap.size + 1, 1, none⟩ = some (.int .i64 1) := by rw [← hW]; simp [go_sem]
  have e2 : W.cell? ⟨w.heap.size + 1, 2, none⟩ = some (.int .i64 0) := by rw [← hW]; simp [go_sem]
  have e3 : W.cell? ⟨w.heap.size + 1, 3, none⟩ = some (.int .i64 0) := by rw [← hW]; simp [go_sem]
  have e4 : W.cell? ⟨w.heap.size + 1, 4, none⟩ = some (.int .i64 0) := by rw [← hW]; simp [go_sem]
  have e5 : W.cell? ⟨w.heap.size + 1, 5, none⟩ = some (.int .i64 0) := by rw [← hW]; simp [go_sem]
  have e6 : W.cell? ⟨w.heap.size + 1, 6, none⟩ = some (.slice none 0 0) := by rw [← hW]; simp [go_sem]
  have t0 : W.cell? ⟨w.heap.size + 1 + 1, 0, none⟩ = some (.int .i64 1) := by rw [← hW]; simp [go_sem]
  have t1 : W.cell? ⟨w.heap.size + 1 + 1, 1, none⟩ = some (.int .i64 80) := by rw [← hW]; simp [go_sem]
  have t2 : W.cell? ⟨w.heap.size + 1 + 1, 2, none⟩ = some (.int .i64 90) := by rw [← hW]; simp [go_sem]
  have c0 : W.cell? ⟨w.heap.size, 0, none⟩ = some (.slice (some ⟨w.heap.size + 1 + 1 + 1 + 1 + 1 + 1, 0, none⟩) 2 2) := by rw [← hW]; simp [go_sem]
  have c1 : W.cell? ⟨w.heap.size, 1, none⟩ = some (.slice (some ⟨w.heap.size + 1 + 1 + 1 + 1 + 1 + 1 + 1, 0, none⟩) 1 1) := by rw [← hW]; simp [go_sem]
  clear hW
  refine bodyPost_ret (v := .agg #[.slice (some ⟨w.heap.size + 1 + 1 + 1 + 1 + 1 + 1, 0, none⟩) 2 2, .slice (some ⟨w.heap.size + 1 + 1 + 1 + 1 + 1 + 1 + 1, 0, none⟩) 1 1]) (by simp [results, Tryz.results29, go_sem, c0, c1]) rfl ⟨_, _, rfl, ?_, ?_, HB⟩
  · exact rd_two (by decide) (by omega) ⟨p0, p1, p2, p3⟩ ⟨p4, p5, p6, p7⟩
  · exact rd_one (by decide) (by omega) ⟨q0, q1, q2, q3, ⟨none, 0, q4, rd_nil _ _ _ _ _ _⟩, _, _, q5, rd_one (by decide) (by omega) ⟨⟨_, _, r0, rd_one (by decide) (by omega) ⟨e0, e1, e2, e3, e4, e5, none, 0, e6, rd_nil _ _ _ _ _ _⟩⟩, _, _, r1, rd_one (by decide) (by omega) ⟨t0, t1, t2⟩⟩⟩
end Go.Proofs.YtmkjlhplgcifiaaGreat
namespace Go.Proofs.YtmkjlhplgcifiaaGreat
open Go.ChangeShapes Go.WideShapes Go.ChangeAt Go.RowKit
attribute [local simp] World.cell?_grow
attribute [local go_sem] World.cell?_grow
attribute [local go_sem] eqg_blk std_blk eqg_pod std_pod eqg_sel std_sel eqg_prt std_prt
attribute [local go_sem ↓] eql_blk eql_sel neq_sel eql_prt eql_pod
attribute [local go_sem ↓] met_in1 met_in2 met_re1 met_re2
attribute [local go_sem ↓] met_has1 met_has2
set_option linter.unusedVariables false
set_option linter.unusedSimpArgs false

theorem rulOk_true {r : DRule} (h : rulOk r = true) : (∀ x ∈ r.peers, peerOk x = true) ∧ ∀ x ∈ r.ports, prtOk x = true := by
  simp only [rulOk, few, Bool.and_eq_true, List.all_eq_true] at h
  exact ⟨h.1.2, h.2.2⟩

set_option maxHeartbeats 1000000 in
theorem ruleFits_any (r : DRule) (pa qa : Option Addr) (pc qc : Nat) (space : Int) (sa : Option Addr) (pods : List DPod) (sc : Nat) (far : Int) (k : DPkt) (w : World)
    (hp : rdPeers w.heap.size w pa r.peers) (hq : rdPorts w.heap.size w qa r.ports) (hd : rdPods w.heap.size w sa pods) (ho : podsOk pods) (hx : rulOk r = true) (i0 : 0 ≤ far) (i1 : far ≤ 4294967295) (h0 : 0 ≤ space) (h1 : space ≤ 3) :
    Calls Tryz.prog 129 #[.agg #[.slice pa r.peers.length pc, .slice qa r.ports.length qc], .agg #[.int .i64 space, .slice sa pods.length sc], .int .i64 far, .agg #[.int .i64 k.src, .int .i64 k.dst, .int .i64 k.proto, .int .i64 k.port]] w
      fun e w' => e = .returned (.bool (ruleFits pods space k far r)) ∧ Below w.heap.size w w' := by
  have HP := hid hp
  have HQ := hid hq
  have HD := hid hd
  have HO := hid ho
  have HX := hid (rulOk_true hx)
  have hmf := mkFunc
  clear hp hq hd ho hx
  cases hq1 : eoa r.peers (peerHas pods space far)
  · have HF := hid (show ruleFits pods space k far r = false by rw [ruleFits, hq1]; rfl)
    go_enter Tryz.func129, Tryz.ntmps129
    go_wp2_with (go_at_call 155; refine (eoaPeer (peerHas pods space far) _ _ _ _ _ _ (rdPeers.to HP.out (by repeat (first | exact Below.refl _ _ | assumption | apply Ext.alloc | apply Ext.drewN | apply Ext.drew | refine Ext.trans ?_ (by assumption)))) (fun x ea ec w2 hx hz hr => fitsClo1 x ea ec far space _ pods sc _ _ w2 hr (rdPods.to (rdPods.to HD.out (by repeat (first | exact Below.refl _ _ | assumption | apply Ext.alloc | apply Ext.drewN | apply Ext.drew | refine Ext.trans ?_ (by assumption)))) hz) HO.out (HX.out.1 x hx) i0 i1 h0 h1 (cell_to (by simp [go_sem]) hz) (cell_to (by simp [go_sem]) hz) (cell_to (by simp [go_sem]) hz))).mono ?_; rintro e w1 ⟨rfl, hb1⟩; obtain ⟨hc1, hf1⟩ := bcell hb1; have hz1 := hb_lt hb1)
    go_ret
    exact ⟨ret_bool (by rw [HF.out]), (by repeat (first | exact Below.refl _ _ | assumption | apply Ext.alloc | apply Ext.drewN | apply Ext.drew | refine Ext.trans ?_ (by assumption)))⟩
  · have HF := hid (show ruleFits pods space k far r = eoa r.ports (prtFits k) by rw [ruleFits, hq1]; rfl)
    go_enter Tryz.func129, Tryz.ntmps129
    go_wp2_with (first
      | (go_at_call 155; refine (eoaPeer (peerHas pods space far) _ _ _ _ _ _ (rdPeers.to HP.out (by repeat (first | exact Below.refl _ _ | assumption | apply Ext.alloc | apply Ext.drewN | apply Ext.drew | refine Ext.trans ?_ (by assumption)))) (fun x ea ec w2 hx hz hr => fitsClo1 x ea ec far space _ pods sc _ _ w2 hr (rdPods.to (rdPods.to HD.out (by repeat (first | exact Below.refl _ _ | assumption | apply Ext.alloc | apply Ext.drewN | apply Ext.drew | refine Ext.trans ?_ (by assumption)))) hz) HO.out (HX.out.1 x hx) i0 i1 h0 h1 (cell_to (by simp [go_sem]) hz) (cell_to (by simp [go_sem]) hz) (cell_to (by simp [go_sem]) hz))).mono ?_; rintro e w1 ⟨rfl, hb1⟩; obtain ⟨hc1, hf1⟩ := bcell hb1; have hz1 := hb_lt hb1)
      | (go_at_call 158; refine (eoaPort (prtFits k) _ _ _ _ _ (rdPorts.to HQ.out (by repeat (first | exact Below.refl _ _ | assumption | apply Ext.alloc | apply Ext.drewN | apply Ext.drew | refine Ext.trans ?_ (by assumption)))) (fun x w2 hx hz => fitsClo2 x k _ w2 (cell_to (cell_to (by simp [go_sem]) hb1) hz) (cell_to (cell_to (by simp [go_sem]) hb1) hz) (cell_to (cell_to (by simp [go_sem]) hb1) hz) (cell_to (cell_to (by simp [go_sem]) hb1) hz))).mono ?_; rintro e w2 ⟨rfl, hb2⟩; obtain ⟨hc2, hf2⟩ := bcell hb2; have hz2 := hb_lt hb2))
    go_ret
    exact ⟨ret_bool (by rw [HF.out]), (by repeat (first | exact Below.refl _ _ | assumption | apply Ext.alloc | apply Ext.drewN | apply Ext.drew | refine Ext.trans ?_ (by assumption)))⟩

theorem goClo (r : DRule) (pa qa : Option Addr) (pc qc : Nat) (space : Int) (sa : Option Addr) (pods : List DPod) (sc : Nat) (far : Int) (k : DPkt) (nb fb kb : Nat) (w : World)
    (hp : rdPeers w.heap.size w pa r.peers) (hq : rdPorts w.heap.size w qa r.ports) (hd : rdPods w.heap.size w sa pods) (ho : podsOk pods) (hx : rulOk r = true) (i0 : 0 ≤ far) (i1 : far ≤ 4294967295) (h0 : 0 ≤ space) (h1 : space ≤ 3)
    (c1 : w.cell? ⟨fb, 0, none⟩ = some (.int .i64 far)) (c2 : w.cell? ⟨nb, 0, none⟩ = some (.int .i64 space)) (c3 : w.cell? ⟨nb, 1, none⟩ = some (.slice sa pods.length sc))
    (k0 : w.cell? ⟨kb, 0, none⟩ = some (.int .i64 k.src)) (k1 : w.cell? ⟨kb, 1, none⟩ = some (.int .i64 k.dst)) (k2 : w.cell? ⟨kb, 2, none⟩ = some (.int .i64 k.proto)) (k3 : w.cell? ⟨kb, 3, none⟩ = some (.int .i64 k.port)) :
    Calls Tryz.prog 128 #[.agg #[.slice pa r.peers.length pc, .slice qa r.ports.length qc], .pointer (some ⟨nb, 0, none⟩), .pointer (some ⟨fb, 0, none⟩), .pointer (some ⟨kb, 0, none⟩)] w
      fun e w' => e = .returned (.bool (ruleFits pods space k far r)) ∧ Below w.heap.size w w' := by
  have HP := hid hp
  have HQ := hid hq
  have HD := hid hd
  have HO := hid ho
  have HX := hid hx
  have l1 := cell_lt c1
  have l2 := cell_lt c2
  have l3 := cell_lt k0
  clear hp hq hd ho hx
  go_enter Tryz.func128, Tryz.ntmps128
  go_wp2_with (go_at_call 129; refine (ruleFits_any r _ _ _ _ _ _ pods _ _ k _ (rdPeers.to HP.out (by repeat (first | exact Below.refl _ _ | assumption | apply Ext.alloc | apply Ext.drewN | apply Ext.drew | refine Ext.trans ?_ (by assumption)))) (rdPorts.to HQ.out (by repeat (first | exact Below.refl _ _ | assumption | apply Ext.alloc | apply Ext.drewN | apply Ext.drew | refine Ext.trans ?_ (by assumption)))) (rdPods.to HD.out (by repeat (first | exact Below.refl _ _ | assumption | apply Ext.alloc | apply Ext.drewN | apply Ext.drew | refine Ext.trans ?_ (by assumption)))) HO.out HX.out i0 i1 h0 h1).mono ?_; rintro e w1 ⟨rfl, hb1⟩; obtain ⟨hc1, hf1⟩ := bcell hb1; have hz1 := hb_lt hb1)
  go_ret
  exact ⟨rfl, (by repeat (first | exact Below.refl _ _ | assumption | apply Ext.alloc | apply Ext.drewN | apply Ext.drew | refine Ext.trans ?_ (by assumption)))⟩

end Go.Proofs.YtmkjlhplgcifiaaGreat
