/-
  palisadekeep: rules: right ones of raw ones.
  palisade.mayGo: the policies that apply, and what they let go (In).
  palisade.Allowed: the whole of P4.
  palisadekeep: what its functions make of raw data: right ones.
-/
import Derived.Test.YtmkjlhplgcifiaaGreatK08
import Derived.Test.YtmkjlhplgcifiaaGreatK09
import Derived.Test.YtmkjlhplgcifiaaGreatK12
import Derived.Deep.RegionHeld3
import Derived.Deep.CutRange
import Derived.Deep.DeepCutAuto
namespace Go.Proofs.YtmkjlhplgcifiaaGreat
open Go.ChangeShapes Go.WideShapes Go.ChangeAt Go.RowKit
attribute [local simp] World.cell?_grow
attribute [local go_sem] World.cell?_grow
attribute [local simp] World.cell?_alloc_there
attribute [local go_sem] World.cell?_alloc_there
attribute [local go_sem] eqg_blk std_blk eqg_pod std_pod eqg_sel std_sel eqg_prt std_prt
attribute [local go_sem ↓] eql_blk eql_sel neq_sel eql_prt eql_pod
attribute [local go_sem ↓] met_in1 met_in2 met_re1 met_re2
attribute [local go_sem ↓] met_has1 met_has2
attribute [local go_sem ↓] met_bl1 met_bl2
set_option linter.unusedVariables false
set_option linter.unusedSimpArgs false
def iBlk (b : DBlk) : Prop := i64 b.base ∧ i64 b.bits
def iPeer (p : DPeer) : Prop := i64 p.kind ∧ i64 p.need ∧ i64 p.ban ∧ i64 p.spaces ∧ i64 p.base ∧ i64 p.bits ∧ ∀ b ∈ p.exc, iBlk b
def iPort (p : DPort) : Prop := i64 p.proto ∧ i64 p.lo ∧ i64 p.hi
def iRule (r : DRule) : Prop := (∀ p ∈ r.peers, iPeer p) ∧ ∀ p ∈ r.ports, iPort p
/-- right things of raw ones -/
def mkPeer (p : DPeer) : DPeer := if pk p.kind 2 = 1 then ⟨1, pk p.need 256, pk p.ban 256, pk p.spaces 16, 0, 0, []⟩ else ⟨2, 0, 0, 0, (mkBlk ⟨p.base, p.bits⟩).base, (mkBlk ⟨p.base, p.bits⟩).bits, (p.exc.take 2).map mkBlk⟩
def mkPort (p : DPort) : DPort := if pk p.hi 65536 < pk p.lo 65536 then ⟨pk p.proto 3, pk p.hi 65536, pk p.lo 65536⟩ else ⟨pk p.proto 3, pk p.lo 65536, pk p.hi 65536⟩
def mkRule (r : DRule) : DRule := ⟨(r.peers.take 2).map mkPeer, (r.ports.take 2).map mkPort⟩
def mkRules (l : List DRule) : List DRule := (l.take 2).map mkRule
theorem mkPort_ok (p : DPort) : prtOk (mkPort p) = true := by
  have h1 := pk_in (c := p.proto) (n := 3) (by decide)
  have h2 := pk_in (c := p.lo) (n := 65536) (by decide)
  have h3 := pk_in (c := p.hi) (n := 65536) (by decide)
  unfold mkPort
  split
  · simp only [prtOk, btw, Bool.and_eq_true, decide_eq_true_eq]; omega
  · simp only [prtOk, btw, Bool.and_eq_true, decide_eq_true_eq]; omega
theorem mkPeer_ok (p : DPeer) : peerOk (mkPeer p) = true := by
  have h1 := pk_in (c := p.need) (n := 256) (by decide)
  have h2 := pk_in (c := p.ban) (n := 256) (by decide)
  have h3 := pk_in (c := p.spaces) (n := 16) (by decide)
  unfold mkPeer
  split
  · have e1 : pk p.need 256 ≤ 255 := by omega
    have e2 : pk p.ban 256 ≤ 255 := by omega
    have e3 : pk p.spaces 16 ≤ 15 := by omega
    simp [peerOk, selOk, btw, h1, h2, h3, e1, e2, e3]
  · have hb : blkOk ⟨(mkBlk ⟨p.base, p.bits⟩).base, (mkBlk ⟨p.base, p.bits⟩).bits⟩ = true := mkBlk_ok ⟨p.base, p.bits⟩
    have he : few ((p.exc.take 2).map mkBlk) 2 blkOk = true := by
      simp only [few, Bool.and_eq_true, decide_eq_true_eq, List.length_map, List.length_take, List.all_map, List.all_eq_true]
      exact ⟨by omega, fun x _ => mkBlk_ok x⟩
    unfold peerOk
    rw [if_neg (show ¬ (2 : Int) = 1 by decide)]
    simp only [hb, he]
    rfl
theorem mkRule_ok (r : DRule) : rulOk (mkRule r) = true := by
  simp only [rulOk, few, mkRule, Bool.and_eq_true, decide_eq_true_eq, List.length_map, List.length_take, List.all_map, List.all_eq_true]
  exact ⟨⟨by omega, fun x _ => mkPeer_ok x⟩, by omega, fun x _ => mkPort_ok x⟩
theorem mkRules_ok (l : List DRule) : (∀ r ∈ mkRules l, rulOk r = true) ∧ (mkRules l).length ≤ 2 := by
  refine ⟨fun r hr => ?_, by simp [mkRules]; omega⟩
  obtain ⟨x, _, rfl⟩ := List.mem_map.1 hr
  exact mkRule_ok x
/-- a peer as it lies in a row -/
structure XPeer where
  d : DPeer
  ea : Option Addr
  ec : Nat
def encXPeer (x : XPeer) : List Value := [.int .i64 x.d.kind, .int .i64 x.d.need, .int .i64 x.d.ban, .int .i64 x.d.spaces, .int .i64 x.d.base, .int .i64 x.d.bits, .slice x.ea x.d.exc.length x.ec]
structure XRule where
  d : DRule
  pa : Option Addr
  pc : Nat
  qa : Option Addr
  qc : Nat
def encXRule (x : XRule) : List Value := [.slice x.pa x.d.peers.length x.pc, .slice x.qa x.d.ports.length x.qc]
def encPort (x : DPort) : List Value := [.int .i64 x.proto, .int .i64 x.lo, .int .i64 x.hi]
theorem blk_cell {w : World} {b : Nat} {arr : Array Value} {t : TypeId} (h : w.heap[b]? = some (.cells arr t (0, 0))) (o : Nat) : w.cell? ⟨b, o, none⟩ = arr[o]? := by simp [World.cell?, h]
theorem blk_frozen {w : World} {b : Nat} {arr : Array Value} {t : TypeId} (h : w.heap[b]? = some (.cells arr t (0, 0))) (o : Nat) : w.frozen? ⟨b, o, none⟩ = false := by simp [World.frozen?, h]
theorem take_lt {α : Type} {l : List α} {k : Nat} (h : k < (l.take 2).length) : k < l.length ∧ k < 2 ∧ (l.take 2)[k]? = l[k]? := by
  rw [List.length_take] at h
  exact ⟨by omega, by omega, by rw [List.getElem?_take, if_pos (by omega)]⟩
theorem take_ge {α : Type} {l : List α} {k : Nat} (h : ¬ k < (l.take 2).length) : ¬ (k < l.length ∧ k < 2) := by
  rw [List.length_take] at h
  omega
theorem gb_below {W w1 w2 : World} {r : Option Nat} (h : W.grownBy w1 r) (hb : Below w1.heap.size w1 w2) : W.grownBy w2 r :=
  ⟨hb.os.trans h.os, hb.tape.trans h.tape, hb.output.trans h.output, Nat.le_trans h.size hb.size, fun k hk hne => (hb.block k (Nat.lt_of_lt_of_le hk h.size)).trans (h.block k hk hne)⟩
theorem gb_row {W w1 w2 : World} {r r2 : Option Nat} (h : W.grownBy w1 r) (k : w1.grownBy w2 r2) (hr : ∀ g, r2 = some g → W.heap.size ≤ g) : W.grownBy w2 r :=
  ⟨k.os.trans h.os, k.tape.trans h.tape, k.output.trans h.output, Nat.le_trans h.size k.size, fun b hb hne => (k.block b (Nat.lt_of_lt_of_le hb h.size) (fun e => by have := hr b e.symm; omega)).trans (h.block b hb hne)⟩
theorem gb_set {W w1 : World} {q : Nat} (h : W.grownBy w1 (some q)) (o : Nat) (u : Value) : W.grownBy (w1.setCell ⟨q, o, none⟩ u) (some q) := by
  have hb := (Below.refl q w1).setCell (p := ⟨q, o, none⟩) (Nat.le_refl _) u
  exact ⟨hb.os.trans h.os, hb.tape.trans h.tape, hb.output.trans h.output, Nat.le_trans h.size hb.size, fun b hb' hne => (Below.heap_setCell _ _ _ _ (fun e => hne (by rw [e]))).trans (h.block b hb' hne)⟩
theorem gb_low {W w1 : World} {q B : Nat} (h : W.grownBy w1 (some q)) (hq : B ≤ q) (hB : B ≤ W.heap.size) : Below B W w1 := (Below.refl B W).grown h hB (fun k hk => by cases hk; exact hq)
theorem gb_refl (W : World) (r : Option Nat) : W.grownBy W r := ⟨rfl, rfl, rfl, Nat.le_refl _, fun _ _ _ => rfl⟩
theorem set_blk {w : World} {g : Nat} {cs : Array Value} {t : TypeId} (h : w.heap[g]? = some (.cells cs t (0, 0))) (i : Nat) (v : Value) : (w.setCell ⟨g, i, none⟩ v).heap[g]? = some (.cells (cs.setIfInBounds i v) t (0, 0)) := heap_setCell_same w g i cs t v h
def NPeer (B : Nat) (w : World) (y : XPeer) : Prop := rdBlks B w y.ea y.d.exc
def NRule (B : Nat) (w : World) (x : XRule) : Prop := rdPeers B w x.pa x.d.peers ∧ rdPorts B w x.qa x.d.ports
def NNo {X : Type} (_ : Nat) (_ : World) (_ : X) : Prop := True
theorem NPeer.mono : Mono NPeer := fun _ _ _ _ _ hs hB h => rdBlks.sub hs hB h
theorem NRule.mono : Mono NRule := fun _ _ _ _ _ hs hB h => ⟨rdPeers.sub hs hB h.1, rdPorts.sub hs hB h.2⟩
theorem NNo.mono {X : Type} : Mono (NNo (X := X)) := fun _ _ _ _ _ _ _ _ => trivial
abbrev UpBlks := Up 47 2 encBlk NNo
abbrev UpPorts := Up 109 3 encPort NNo
abbrev UpPeers := Up 69 7 encXPeer NPeer
abbrev UpRules := Up 64 2 encXRule NRule
theorem upBlks_done {base : Nat} {w : World} {v : Value} {l : List DBlk} (h : UpBlks base w v l) (hl : l.length ≤ 1000000) : ∃ a c, v = .slice a l.length c ∧ l.length ≤ c ∧ rdBlks w.heap.size (hide w (low base)) a l := by
  have := Up.done (X := DBlk) (k := 2) (enc := encBlk) (N := NNo) (d := id) (E := eBlk) (bytes := 16) NNo.mono (fun _ => rfl) (by decide) h (by omega) (fun B w b o y _ hc => ⟨hc 0 _ rfl, hc 1 _ rfl⟩)
  simpa using this
theorem upPorts_done {base : Nat} {w : World} {v : Value} {l : List DPort} (h : UpPorts base w v l) (hl : l.length ≤ 1000000) : ∃ a c, v = .slice a l.length c ∧ l.length ≤ c ∧ rdPorts w.heap.size (hide w (low base)) a l := by
  have := Up.done (X := DPort) (k := 3) (enc := encPort) (N := NNo) (d := id) (E := ePort) (bytes := 24) NNo.mono (fun _ => rfl) (by decide) h (by omega) (fun B w b o y _ hc => ⟨hc 0 _ rfl, hc 1 _ rfl, hc 2 _ rfl⟩)
  simpa using this
theorem upPeers_done {base : Nat} {w : World} {v : Value} {l : List XPeer} (h : UpPeers base w v l) (hl : l.length ≤ 1000000) : ∃ a c, v = .slice a (l.map (·.d)).length c ∧ (l.map (·.d)).length ≤ c ∧ rdPeers w.heap.size (hide w (low base)) a (l.map (·.d)) :=
  Up.done (d := (·.d)) (E := ePeer) (bytes := 72) NPeer.mono (fun _ => rfl) (by decide) h (by omega) (fun B w b o y hn hc => ⟨hc 0 _ rfl, hc 1 _ rfl, hc 2 _ rfl, hc 3 _ rfl, hc 4 _ rfl, hc 5 _ rfl, y.ea, y.ec, hc 6 _ rfl, hn⟩)
theorem upRules_done {base : Nat} {w : World} {v : Value} {l : List XRule} (h : UpRules base w v l) (hl : l.length ≤ 1000000) : ∃ a c, v = .slice a (l.map (·.d)).length c ∧ (l.map (·.d)).length ≤ c ∧ rdRules w.heap.size (hide w (low base)) a (l.map (·.d)) :=
  Up.done (d := (·.d)) (E := eRule) (bytes := 48) NRule.mono (fun _ => rfl) (by decide) h (by omega) (fun B w b o y hn hc => ⟨⟨y.pa, y.pc, hc 0 _ rfl, hn.1⟩, y.qa, y.qc, hc 1 _ rfl, hn.2⟩)
theorem info_peer : (Tryz.prog.info? 69).map (fun i => (i.zero, i.size, i.bytes)) = some (some (.agg #[.int .i64 0, .int .i64 0, .int .i64 0, .int .i64 0, .int .i64 0, .int .i64 0, .slice none 0 0]), 7, 72) := by kernel_rfl
theorem info_rule : (Tryz.prog.info? 64).map (fun i => (i.zero, i.size, i.bytes)) = some (some (.agg #[.slice none 0 0, .slice none 0 0]), 2, 48) := by kernel_rfl
theorem info_port : (Tryz.prog.info? 109).map (fun i => (i.zero, i.size, i.bytes)) = some (some (.agg #[.int .i64 0, .int .i64 0, .int .i64 0]), 3, 24) := by kernel_rfl
theorem snoc_take {α β : Type} {l : List α} {j : Nat} {p : α} (f : α → β) (h : l[j]? = some p) : (l.take j).map f ++ [f p] = (l.take (j + 1)).map f := by rw [List.take_add_one, h, Option.toList_some, List.map_append]; rfl
theorem new_heap (w : World) (o : Obj) : (w.alloc o).heap[w.heap.size]? = some o := by show (w.heap.push _)[w.heap.size]? = _; simp
end Go.Proofs.YtmkjlhplgcifiaaGreat
namespace Go.Proofs.YtmkjlhplgcifiaaGreat
open Go.ChangeShapes Go.WideShapes Go.ChangeAt Go.RowKit
attribute [local simp] World.cell?_grow
attribute [local go_sem] World.cell?_grow
attribute [local simp] World.cell?_alloc_there
attribute [local go_sem] World.cell?_alloc_there
attribute [local go_sem] eqg_blk std_blk eqg_pod std_pod eqg_sel std_sel eqg_prt std_prt
attribute [local go_sem ↓] eql_blk eql_sel neq_sel eql_prt eql_pod
attribute [local go_sem ↓] met_in1 met_in2 met_re1 met_re2
attribute [local go_sem ↓] met_has1 met_has2
set_option linter.unusedVariables false
set_option linter.unusedSimpArgs false
theorem appClo_in (x : DPol) (oa ia : Option Addr) (on inn oc ic : Nat) (p : DPod) (wb pb : Nat) (w : World) (hq : polOk x = true) (hp : podOk p = true)
    (cw : w.cell? ⟨wb, 0, none⟩ = some (.int .i64 2)) (c0 : w.cell? ⟨pb, 0, none⟩ = some (.int .i64 p.host)) (c1 : w.cell? ⟨pb, 1, none⟩ = some (.int .i64 p.ip)) (c2 : w.cell? ⟨pb, 2, none⟩ = some (.int .i64 p.space)) (c3 : w.cell? ⟨pb, 3, none⟩ = some (.int .i64 p.labels)) :
    Calls Tryz.prog 123 #[.agg #[.int .i64 x.space, .int .i64 x.need, .int .i64 x.ban, .int .i64 x.ways, .slice oa on oc, .slice ia inn ic], .pointer (some ⟨wb, 0, none⟩), .pointer (some ⟨pb, 0, none⟩)] w fun e w' => e = .returned (.bool (applies 2 p x)) ∧ Below w.heap.size w w' := by
  have l1 := cell_lt cw
  have l2 := cell_lt c0
  have HQ := hid hq
  have HP := hid hp
  clear hq hp
  go_enter Tryz.func123, Tryz.ntmps123
  go_wp2_with (go_at_call 124; refine (applies_in x _ _ _ _ _ _ p _ HQ.out HP.out).mono ?_; rintro e w1 ⟨rfl, hb1⟩; obtain ⟨hc1, hf1⟩ := bcell hb1; have hz1 := hb_lt hb1)
  go_ret
  exact ⟨rfl, (by repeat (first | exact Below.refl _ _ | assumption | apply Ext.alloc | apply Ext.drewN | apply Ext.drew | refine Ext.trans ?_ (by assumption)))⟩
set_option maxHeartbeats 1000000 in
theorem applying_in (p : DPod) (l : List DPol) (qa : Option Addr) (qc : Nat) (w : World) (hq : rdPols w.heap.size w qa l) (hok : ∀ q ∈ l, polOk q = true) (hp : podOk p = true) :
    Calls Tryz.prog 94 #[.slice qa l.length qc, .int .i64 2, .agg #[.int .i64 p.host, .int .i64 p.ip, .int .i64 p.space, .int .i64 p.labels]] w fun e w' => (∃ a' c', e = .returned (.slice a' (l.filter (applies 2 p)).length c') ∧ rdPols w'.heap.size w' a' (l.filter (applies 2 p))) ∧ Below w.heap.size w w' := by
  have HQ := hid hq
  have HO := hid hok
  have HP := hid hp
  have hmf := mkFunc
  clear hq hok hp
  go_enter Tryz.func94, Tryz.ntmps94
  go_wp2_with (go_at_call 122; go_must (refine (keepPol (applies 2 p) _ _ _ _ _ _ (rdPols.to HQ.out (by repeat (first | exact Below.refl _ _ | assumption | apply Ext.alloc | apply Ext.drewN | apply Ext.drew | refine Ext.trans ?_ (by assumption)))) (fun x oa ia oc ic w2 hx hb2 _ _ => appClo_in x oa ia _ _ oc ic p _ _ w2 (HO.out x hx) HP.out (cell_to (by simp [go_sem]) hb2) (cell_to (by simp [go_sem]) hb2) (cell_to (by simp [go_sem]) hb2) (cell_to (by simp [go_sem]) hb2) (cell_to (by simp [go_sem]) hb2))).mono ?_); rintro e w3 ⟨⟨a', c', rfl, hr3⟩, hb3⟩; have HR3 := hid hr3; clear hr3)
  go_ret
  exact ⟨⟨_, _, rfl, HR3.out⟩, (by repeat (first | exact Below.refl _ _ | assumption | apply Ext.alloc | apply Ext.drewN | apply Ext.drew | refine Ext.trans ?_ (by assumption)))⟩
theorem mayClo_in (x : DPol) (oa ia : Option Addr) (oc ic : Nat) (sa : Option Addr) (pods : List DPod) (sc : Nat) (k : DPkt) (wb cb kb : Nat) (w : World)
    (hr : rdRules w.heap.size w ia x.ins) (hd : rdPods w.heap.size w sa pods) (ho : podsOk pods) (hq : polOk x = true) (hk : pktOk k = true)
    (cw : w.cell? ⟨wb, 0, none⟩ = some (.int .i64 2)) (cc : w.cell? ⟨cb, 0, none⟩ = some (.slice sa pods.length sc)) (c0 : w.cell? ⟨kb, 0, none⟩ = some (.int .i64 k.src)) (c1 : w.cell? ⟨kb, 1, none⟩ = some (.int .i64 k.dst)) (c2 : w.cell? ⟨kb, 2, none⟩ = some (.int .i64 k.proto)) (c3 : w.cell? ⟨kb, 3, none⟩ = some (.int .i64 k.port)) :
    Calls Tryz.prog 96 #[.agg #[.int .i64 x.space, .int .i64 x.need, .int .i64 x.ban, .int .i64 x.ways, .slice oa x.outs.length oc, .slice ia x.ins.length ic], .pointer (some ⟨wb, 0, none⟩), .pointer (some ⟨cb, 0, none⟩), .pointer (some ⟨kb, 0, none⟩)] w fun e w' => e = .returned (.bool (letsGo pods 2 k k.src x)) ∧ Below w.heap.size w w' := by
  have l1 := cell_lt cw
  have l2 := cell_lt cc
  have l3 := cell_lt c0
  have HR := hid hr
  have HD := hid hd
  have HO := hid ho
  have HQ := hid hq
  have HK := hid hk
  clear hr hd ho hq hk
  go_enter Tryz.func96, Tryz.ntmps96
  go_wp2_with (go_at_call 97; refine (letsGo_in x _ _ _ _ _ pods _ k _ (rdRules.to HR.out (by repeat (first | exact Below.refl _ _ | assumption | apply Ext.alloc | apply Ext.drewN | apply Ext.drew | refine Ext.trans ?_ (by assumption)))) (rdPods.to HD.out (by repeat (first | exact Below.refl _ _ | assumption | apply Ext.alloc | apply Ext.drewN | apply Ext.drew | refine Ext.trans ?_ (by assumption)))) HO.out HQ.out HK.out).mono ?_; rintro e w1 ⟨rfl, hb1⟩; obtain ⟨hc1, hf1⟩ := bcell hb1; have hz1 := hb_lt hb1)
  go_ret
  exact ⟨rfl, (by repeat (first | exact Below.refl _ _ | assumption | apply Ext.alloc | apply Ext.drewN | apply Ext.drew | refine Ext.trans ?_ (by assumption)))⟩
set_option maxHeartbeats 4000000 in
theorem mayGo_in (c : DClu) (k : DPkt) (pa qa : Option Addr) (pc qc : Nat) (w : World) (hp : rdPods w.heap.size w pa c.pods) (hq : rdPols w.heap.size w qa c.pols) (hc : cluOk c) (hk : pktOk k = true) :
    Calls Tryz.prog 57 #[.agg #[.slice pa c.pods.length pc, .slice qa c.pols.length qc], .int .i64 2, .agg #[.int .i64 k.src, .int .i64 k.dst, .int .i64 k.proto, .int .i64 k.port]] w fun e w' => e = .returned (.bool (may c 2 k k.dst k.src)) ∧ Below w.heap.size w w' := by
  have HP := hid hp
  have HQ := hid hq
  have HC := hid hc
  have HK := hid hk
  have hl2 := hq.1
  have hmf := mkFunc
  clear hp hq hc hk
  cases hpa : podAt c.pods k.dst with
  | none =>
    have HA := hid hpa
    have HF := hid (may_none (way := 2) (k := k) (far := k.src) hpa)
    clear hpa
    go_enter Tryz.func57, Tryz.ntmps57
    go_wp2_with (first
      | (go_at_call 92; refine (ends_in k _).mono ?_; rintro e w1 ⟨rfl, hb1⟩; obtain ⟨hc1, hf1⟩ := bcell hb1; have hz1 := hb_lt hb1)
      | (go_at_call 93; refine (at_any _ _ c.pods _ _ (rdPods.to HP.out (by repeat (first | exact Below.refl _ _ | assumption | apply Ext.alloc | apply Ext.drewN | apply Ext.drew | refine Ext.trans ?_ (by assumption))))).mono ?_; rw [HA.out, atV]; rintro e w2 ⟨rfl, hb2⟩; obtain ⟨hc2, hf2⟩ := bcell hb2; have hz2 := hb_lt hb2))
    go_ret
    exact ⟨ret_bool (by rw [HF.out]), (by repeat (first | exact Below.refl _ _ | assumption | apply Ext.alloc | apply Ext.drewN | apply Ext.drew | refine Ext.trans ?_ (by assumption)))⟩
  | some p =>
    have HA := hid hpa
    have HPP := hid (HC.out.1.1 p (List.mem_of_find?_eq_some hpa))
    have HF := hid (may_held (way := 2) (k := k) (far := k.src) hpa)
    clear hpa
    go_enter Tryz.func57, Tryz.ntmps57
    go_wp2_with (first
      | (go_at_call 92; refine (ends_in k _).mono ?_; rintro e w1 ⟨rfl, hb1⟩; obtain ⟨hc1, hf1⟩ := bcell hb1; have hz1 := hb_lt hb1; have ec0 : w1.cell? ⟨w.heap.size, 0, none⟩ = some (.slice pa c.pods.length pc) := cell_to (by simp [go_sem]) hb1; have ec1 : w1.cell? ⟨w.heap.size, 1, none⟩ = some (.slice qa c.pols.length qc) := cell_to (by simp [go_sem]) hb1; have ew : w1.cell? ⟨w.heap.size + 1, 0, none⟩ = some (.int .i64 2) := cell_to (by simp [go_sem]) hb1; have ek0 : w1.cell? ⟨w.heap.size + 1 + 1, 0, none⟩ = some (.int .i64 k.src) := cell_to (by simp [go_sem]) hb1; have ek1 : w1.cell? ⟨w.heap.size + 1 + 1, 1, none⟩ = some (.int .i64 k.dst) := cell_to (by simp [go_sem]) hb1; have ek2 : w1.cell? ⟨w.heap.size + 1 + 1, 2, none⟩ = some (.int .i64 k.proto) := cell_to (by simp [go_sem]) hb1; have ek3 : w1.cell? ⟨w.heap.size + 1 + 1, 3, none⟩ = some (.int .i64 k.port) := cell_to (by simp [go_sem]) hb1)
      | (go_at_call 93; refine (at_any _ _ c.pods _ _ (rdPods.to HP.out (by repeat (first | exact Below.refl _ _ | assumption | apply Ext.alloc | apply Ext.drewN | apply Ext.drew | refine Ext.trans ?_ (by assumption))))).mono ?_; rw [HA.out, atV]; rintro e w2 ⟨rfl, hb2⟩; obtain ⟨hc2, hf2⟩ := bcell hb2; have hz2 := hb_lt hb2; have fc0 := cell_to ec0 hb2; have fc1 := cell_to ec1 hb2; have fw := cell_to ew hb2; have fk0 := cell_to ek0 hb2; have fk1 := cell_to ek1 hb2; have fk2 := cell_to ek2 hb2; have fk3 := cell_to ek3 hb2; have ed0 : ∀ o, (w2.alloc o).cell? ⟨w.heap.size, 0, none⟩ = some (.slice pa c.pods.length pc) := fun o => cell_past fc0; have ed1 : ∀ o, (w2.alloc o).cell? ⟨w.heap.size, 1, none⟩ = some (.slice qa c.pols.length qc) := fun o => cell_past fc1; have edw : ∀ o, (w2.alloc o).cell? ⟨w.heap.size + 1, 0, none⟩ = some (.int .i64 2) := fun o => cell_past fw)
      | (go_at_call 94; refine (applying_in p c.pols _ _ _ (rdPols.to HQ.out (by repeat (first | exact Below.refl _ _ | assumption | apply Ext.alloc | apply Ext.drewN | apply Ext.drew | refine Ext.trans ?_ (by assumption)))) HC.out.2 HPP.out).mono ?_; rintro e w3 ⟨⟨a', c', rfl, hr3⟩, hb3⟩; have HR3 := hid hr3; clear hr3; have hz3 := hb_lt hb3)
      | (go_at_call 95; go_must (refine (eoaPol (letsGo c.pods 2 k k.src) _ _ _ _ _ _ _ HR3.out (fun x oa ia oc ic w4 hx hb4 hro hri => mayClo_in x oa ia oc ic pa c.pods pc k _ _ _ w4 hri (rdPods.to (rdPods.to HP.out (by repeat (first | exact Below.refl _ _ | assumption | apply Ext.alloc | apply Ext.drewN | apply Ext.drew | refine Ext.trans ?_ (by assumption)))) hb4) HC.out.1 (HC.out.2 x (List.mem_filter.1 hx).1) HK.out (cell_to (cell_to (cell_past fw) hb3) hb4) (cell_to (cell_to (cell_past fc0) hb3) hb4) (cell_to (cell_to (cell_past fk0) hb3) hb4) (cell_to (cell_to (cell_past fk1) hb3) hb4) (cell_to (cell_to (cell_past fk2) hb3) hb4) (cell_to (cell_to (cell_past fk3) hb3) hb4))).mono ?_); rintro e w4 ⟨rfl, hb4⟩; obtain ⟨hc4, hf4⟩ := bcell hb4; have hz4 := hb_lt hb4))
    go_ret
    exact ⟨ret_bool (by rw [HF.out]), (by repeat (first | exact Below.refl _ _ | assumption | apply Ext.alloc | apply Ext.drewN | apply Ext.drew | refine Ext.trans ?_ (by assumption)))⟩
end Go.Proofs.YtmkjlhplgcifiaaGreat
namespace Go.Proofs.YtmkjlhplgcifiaaGreat
open Go.ChangeShapes Go.WideShapes Go.ChangeAt Go.RowKit
attribute [local simp] World.cell?_grow
attribute [local go_sem] World.cell?_grow
attribute [local simp] World.cell?_alloc_there
attribute [local go_sem] World.cell?_alloc_there
attribute [local go_sem] eqg_blk std_blk eqg_pod std_pod eqg_sel std_sel eqg_prt std_prt
attribute [local go_sem ↓] eql_blk eql_sel neq_sel eql_prt eql_pod
attribute [local go_sem ↓] met_in1 met_in2 met_re1 met_re2
attribute [local go_sem ↓] met_has1 met_has2
set_option linter.unusedVariables false
set_option linter.unusedSimpArgs false
theorem firstBad_none' {good : Nat → Bool} {n : Nat} (h : firstBad good n = none) : ∀ j, j < n → good j = true := by
  unfold firstBad at h
  rw [List.find?_eq_none] at h
  intro j hj
  have := h j (List.mem_range.2 hj)
  simpa using this
theorem right_zero {c : DClu} (h : (right c).1 = 0) : cluOk c := by
  unfold right at h
  split at h
  · cases h
  · cases h1 : firstBad (podGood c.pods) c.pods.length with
    | some i => rw [h1] at h; cases h
    | none =>
      rw [h1] at h
      cases h2 : firstBad (polGood c.pols) c.pols.length with
      | some i => simp only [h2] at h; cases h
      | none =>
        have g1 := firstBad_none' h1
        have g2 := firstBad_none' h2
        refine ⟨⟨fun p hp => ?_, ?_⟩, fun q hq => ?_⟩
        · obtain ⟨j, hj, rfl⟩ := List.getElem_of_mem hp
          have := g1 j hj
          rw [podGood_some (List.getElem?_eq_getElem hj), Bool.and_eq_true] at this
          exact this.1
        · rw [List.pairwise_iff_getElem]
          intro i j hi hj hij he
          have := g1 j hj
          rw [podGood, List.getElem?_eq_getElem hj] at this
          simp only [Bool.and_eq_true, List.all_eq_true] at this
          have h3 := this.2 c.pods[i] (List.mem_take_iff_getElem.2 ⟨i, by omega, rfl⟩)
          simp [he] at h3
        · obtain ⟨j, hj, rfl⟩ := List.getElem_of_mem hq
          have := g2 j hj
          rwa [polGood_some (List.getElem?_eq_getElem hj)] at this
set_option maxHeartbeats 4000000 in
theorem allowed_any (c : DClu) (k : DPkt) (pa qa : Option Addr) (pc qc : Nat) (w : World) (hp : rdPods w.heap.size w pa c.pods) (hq : rdPols w.heap.size w qa c.pols) (hpc : c.pods.length ≤ pc) :
    Calls Tryz.prog 32 #[.agg #[.slice pa c.pods.length pc, .slice qa c.pols.length qc], .agg #[.int .i64 k.src, .int .i64 k.dst, .int .i64 k.proto, .int .i64 k.port]] w
      fun e w' => e = .returned (.tuple #[.bool (allowed c k).1, .int .i64 (allowed c k).2]) ∧ Below w.heap.size w w' := by
  have HP := hid hp
  have HQ := hid hq
  clear hp hq
  by_cases h0 : (right c).1 = 0
  · have HC := hid (right_zero h0)
    have HE := hid h0
    cases hk : pktOk k
    · have HF := hid (show allowed c k = (false, 4) by rw [allowed, if_neg (by simp [h0]), if_pos hk])
      have HK := hid hk
      clear h0
      go_enter Tryz.func32, Tryz.ntmps32
      go_wp2_with (first
        | (go_at_call 56; refine (right_any c _ _ _ _ _ (rdPods.to HP.out (by repeat (first | exact Below.refl _ _ | assumption | apply Ext.alloc | apply Ext.drewN | apply Ext.drew | refine Ext.trans ?_ (by assumption)))) (rdPols.to HQ.out (by repeat (first | exact Below.refl _ _ | assumption | apply Ext.alloc | apply Ext.drewN | apply Ext.drew | refine Ext.trans ?_ (by assumption)))) hpc).mono ?_; rw [HE.out]; rintro e w1 ⟨rfl, hb1⟩; obtain ⟨hc1, hf1⟩ := bcell hb1; have hz1 := hb_lt hb1; have ca0 : w1.cell? ⟨w.heap.size, 0, none⟩ = some (.slice pa c.pods.length pc) := cell_to (by simp [go_sem]) hb1; have ca1 : w1.cell? ⟨w.heap.size, 1, none⟩ = some (.slice qa c.pols.length qc) := cell_to (by simp [go_sem]) hb1; have ca2 : w1.cell? ⟨w.heap.size + 1, 0, none⟩ = some (.int .i64 k.src) := cell_to (by simp [go_sem]) hb1; have ca3 : w1.cell? ⟨w.heap.size + 1, 1, none⟩ = some (.int .i64 k.dst) := cell_to (by simp [go_sem]) hb1; have ca4 : w1.cell? ⟨w.heap.size + 1, 2, none⟩ = some (.int .i64 k.proto) := cell_to (by simp [go_sem]) hb1; have ca5 : w1.cell? ⟨w.heap.size + 1, 3, none⟩ = some (.int .i64 k.port) := cell_to (by simp [go_sem]) hb1)
        | (go_at_call 36; refine (pktRight_any k _).mono ?_; rw [HK.out]; rintro e w2 ⟨rfl, hb2⟩; obtain ⟨hc2, hf2⟩ := bcell hb2; have hz2 := hb_lt hb2; have cb0 := cell_to ca0 hb2; have cb1 := cell_to ca1 hb2; have cb2 := cell_to ca2 hb2; have cb3 := cell_to ca3 hb2; have cb4 := cell_to ca4 hb2; have cb5 := cell_to ca5 hb2))
      go_ret2
      exact ⟨by rw [HF.out]; rfl, (by repeat (first | exact Below.refl _ _ | assumption | apply Ext.alloc | apply Ext.drewN | apply Ext.drew | refine Ext.trans ?_ (by assumption)))⟩
    · have HK := hid hk
      cases hm : may c 1 k k.src k.dst
      · have HF := hid (show allowed c k = (false, 0) by rw [allowed, if_neg (by simp [h0]), if_neg (by simp [hk]), hm]; rfl)
        clear h0
        go_enter Tryz.func32, Tryz.ntmps32
        go_wp2_with (first
          | (go_at_call 56; refine (right_any c _ _ _ _ _ (rdPods.to HP.out (by repeat (first | exact Below.refl _ _ | assumption | apply Ext.alloc | apply Ext.drewN | apply Ext.drew | refine Ext.trans ?_ (by assumption)))) (rdPols.to HQ.out (by repeat (first | exact Below.refl _ _ | assumption | apply Ext.alloc | apply Ext.drewN | apply Ext.drew | refine Ext.trans ?_ (by assumption)))) hpc).mono ?_; rw [HE.out]; rintro e w1 ⟨rfl, hb1⟩; obtain ⟨hc1, hf1⟩ := bcell hb1; have hz1 := hb_lt hb1; have ca0 : w1.cell? ⟨w.heap.size, 0, none⟩ = some (.slice pa c.pods.length pc) := cell_to (by simp [go_sem]) hb1; have ca1 : w1.cell? ⟨w.heap.size, 1, none⟩ = some (.slice qa c.pols.length qc) := cell_to (by simp [go_sem]) hb1; have ca2 : w1.cell? ⟨w.heap.size + 1, 0, none⟩ = some (.int .i64 k.src) := cell_to (by simp [go_sem]) hb1; have ca3 : w1.cell? ⟨w.heap.size + 1, 1, none⟩ = some (.int .i64 k.dst) := cell_to (by simp [go_sem]) hb1; have ca4 : w1.cell? ⟨w.heap.size + 1, 2, none⟩ = some (.int .i64 k.proto) := cell_to (by simp [go_sem]) hb1; have ca5 : w1.cell? ⟨w.heap.size + 1, 3, none⟩ = some (.int .i64 k.port) := cell_to (by simp [go_sem]) hb1)
          | (go_at_call 36; refine (pktRight_any k _).mono ?_; rw [HK.out]; rintro e w2 ⟨rfl, hb2⟩; obtain ⟨hc2, hf2⟩ := bcell hb2; have hz2 := hb_lt hb2; have cb0 := cell_to ca0 hb2; have cb1 := cell_to ca1 hb2; have cb2 := cell_to ca2 hb2; have cb3 := cell_to ca3 hb2; have cb4 := cell_to ca4 hb2; have cb5 := cell_to ca5 hb2)
          | (go_at_call 57; refine (mayGo_out c k _ _ _ _ _ (rdPods.to HP.out (by repeat (first | exact Below.refl _ _ | assumption | apply Ext.alloc | apply Ext.drewN | apply Ext.drew | refine Ext.trans ?_ (by assumption)))) (rdPols.to HQ.out (by repeat (first | exact Below.refl _ _ | assumption | apply Ext.alloc | apply Ext.drewN | apply Ext.drew | refine Ext.trans ?_ (by assumption)))) HC.out HK.out).mono ?_; rintro e w3 ⟨rfl, hb3⟩; obtain ⟨hc3, hf3⟩ := bcell hb3; have hz3 := hb_lt hb3; have cc0 := cell_to cb0 hb3; have cc1 := cell_to cb1 hb3; have cc2 := cell_to cb2 hb3; have cc3 := cell_to cb3 hb3; have cc4 := cell_to cb4 hb3; have cc5 := cell_to cb5 hb3))
        go_ret2
        exact ⟨by rw [HF.out]; rfl, (by repeat (first | exact Below.refl _ _ | assumption | apply Ext.alloc | apply Ext.drewN | apply Ext.drew | refine Ext.trans ?_ (by assumption)))⟩
      · have HF := hid (show allowed c k = (may c 2 k k.dst k.src, 0) by rw [allowed, if_neg (by simp [h0]), if_neg (by simp [hk]), hm]; rfl)
        clear h0
        go_enter Tryz.func32, Tryz.ntmps32
        go_wp2_with (first
          | (go_at_call 56; refine (right_any c _ _ _ _ _ (rdPods.to HP.out (by repeat (first | exact Below.refl _ _ | assumption | apply Ext.alloc | apply Ext.drewN | apply Ext.drew | refine Ext.trans ?_ (by assumption)))) (rdPols.to HQ.out (by repeat (first | exact Below.refl _ _ | assumption | apply Ext.alloc | apply Ext.drewN | apply Ext.drew | refine Ext.trans ?_ (by assumption)))) hpc).mono ?_; rw [HE.out]; rintro e w1 ⟨rfl, hb1⟩; obtain ⟨hc1, hf1⟩ := bcell hb1; have hz1 := hb_lt hb1; have ca0 : w1.cell? ⟨w.heap.size, 0, none⟩ = some (.slice pa c.pods.length pc) := cell_to (by simp [go_sem]) hb1; have ca1 : w1.cell? ⟨w.heap.size, 1, none⟩ = some (.slice qa c.pols.length qc) := cell_to (by simp [go_sem]) hb1; have ca2 : w1.cell? ⟨w.heap.size + 1, 0, none⟩ = some (.int .i64 k.src) := cell_to (by simp [go_sem]) hb1; have ca3 : w1.cell? ⟨w.heap.size + 1, 1, none⟩ = some (.int .i64 k.dst) := cell_to (by simp [go_sem]) hb1; have ca4 : w1.cell? ⟨w.heap.size + 1, 2, none⟩ = some (.int .i64 k.proto) := cell_to (by simp [go_sem]) hb1; have ca5 : w1.cell? ⟨w.heap.size + 1, 3, none⟩ = some (.int .i64 k.port) := cell_to (by simp [go_sem]) hb1)
          | (go_at_call 36; refine (pktRight_any k _).mono ?_; rw [HK.out]; rintro e w2 ⟨rfl, hb2⟩; obtain ⟨hc2, hf2⟩ := bcell hb2; have hz2 := hb_lt hb2; have cb0 := cell_to ca0 hb2; have cb1 := cell_to ca1 hb2; have cb2 := cell_to ca2 hb2; have cb3 := cell_to ca3 hb2; have cb4 := cell_to ca4 hb2; have cb5 := cell_to ca5 hb2))
        refine (mayGo_out c k _ _ _ _ _ (rdPods.to HP.out (by repeat (first | exact Below.refl _ _ | assumption | apply Ext.alloc | apply Ext.drewN | apply Ext.drew | refine Ext.trans ?_ (by assumption)))) (rdPols.to HQ.out (by repeat (first | exact Below.refl _ _ | assumption | apply Ext.alloc | apply Ext.drewN | apply Ext.drew | refine Ext.trans ?_ (by assumption)))) HC.out HK.out).mono ?_
        rintro e w3 ⟨rfl, hb3⟩; obtain ⟨hc3, hf3⟩ := bcell hb3; have hz3 := hb_lt hb3; have cc0 := cell_to cb0 hb3; have cc1 := cell_to cb1 hb3; have cc2 := cell_to cb2 hb3; have cc3 := cell_to cb3 hb3; have cc4 := cell_to cb4 hb3; have cc5 := cell_to cb5 hb3
        go_wp2_with fail
        refine (mayGo_in c k _ _ _ _ _ (rdPods.to HP.out (by repeat (first | exact Below.refl _ _ | assumption | apply Ext.alloc | apply Ext.drewN | apply Ext.drew | refine Ext.trans ?_ (by assumption)))) (rdPols.to HQ.out (by repeat (first | exact Below.refl _ _ | assumption | apply Ext.alloc | apply Ext.drewN | apply Ext.drew | refine Ext.trans ?_ (by assumption)))) HC.out HK.out).mono ?_
        rintro e w4 ⟨rfl, hb4⟩; obtain ⟨hc4, hf4⟩ := bcell hb4; have hz4 := hb_lt hb4
        go_wp2
        go_ret2
        exact ⟨by rw [HF.out]; rfl, (by repeat (first | exact Below.refl _ _ | assumption | apply Ext.alloc | apply Ext.drewN | apply Ext.drew | refine Ext.trans ?_ (by assumption)))⟩
  · have HF := hid (show allowed c k = (false, (right c).1) by rw [allowed, if_pos h0])
    have hn : ((right c).1 == 0) = false := by simp [h0]
    clear h0
    go_enter Tryz.func32, Tryz.ntmps32
    go_wp2_with (go_at_call 56; refine (right_any c _ _ _ _ _ (rdPods.to HP.out (by repeat (first | exact Below.refl _ _ | assumption | apply Ext.alloc | apply Ext.drewN | apply Ext.drew | refine Ext.trans ?_ (by assumption)))) (rdPols.to HQ.out (by repeat (first | exact Below.refl _ _ | assumption | apply Ext.alloc | apply Ext.drewN | apply Ext.drew | refine Ext.trans ?_ (by assumption)))) hpc).mono ?_; rintro e w1 ⟨rfl, hb1⟩; obtain ⟨hc1, hf1⟩ := bcell hb1; have hz1 := hb_lt hb1; have ca0 : w1.cell? ⟨w.heap.size, 0, none⟩ = some (.slice pa c.pods.length pc) := cell_to (by simp [go_sem]) hb1; have ca1 : w1.cell? ⟨w.heap.size, 1, none⟩ = some (.slice qa c.pols.length qc) := cell_to (by simp [go_sem]) hb1; have ca2 : w1.cell? ⟨w.heap.size + 1, 0, none⟩ = some (.int .i64 k.src) := cell_to (by simp [go_sem]) hb1; have ca3 : w1.cell? ⟨w.heap.size + 1, 1, none⟩ = some (.int .i64 k.dst) := cell_to (by simp [go_sem]) hb1; have ca4 : w1.cell? ⟨w.heap.size + 1, 2, none⟩ = some (.int .i64 k.proto) := cell_to (by simp [go_sem]) hb1; have ca5 : w1.cell? ⟨w.heap.size + 1, 3, none⟩ = some (.int .i64 k.port) := cell_to (by simp [go_sem]) hb1)
    go_ret2
    exact ⟨by rw [HF.out]; rfl, (by repeat (first | exact Below.refl _ _ | assumption | apply Ext.alloc | apply Ext.drewN | apply Ext.drew | refine Ext.trans ?_ (by assumption)))⟩
end Go.Proofs.YtmkjlhplgcifiaaGreat
namespace Go.Proofs.YtmkjlhplgcifiaaGreat
open Go.ChangeShapes Go.WideShapes Go.ChangeAt Go.RowKit
attribute [local simp] World.cell?_grow
attribute [local go_sem] World.cell?_grow
attribute [local simp] World.cell?_alloc_there
attribute [local go_sem] World.cell?_alloc_there
attribute [local go_sem] eqg_blk std_blk eqg_pod std_pod eqg_sel std_sel eqg_prt std_prt
attribute [local go_sem ↓] eql_blk eql_sel neq_sel eql_prt eql_pod
attribute [local go_sem ↓] met_in1 met_in2 met_re1 met_re2
attribute [local go_sem ↓] met_has1 met_has2
attribute [local go_sem ↓] met_bl1 met_bl2
set_option linter.unusedVariables false
set_option linter.unusedSimpArgs false
theorem i64_wrap (n : Int) : i64 (wrap64 n) := by unfold i64 wrap64; omega
def mkWays (n : Int) : Int := 1 + pk (wrap64 (n - 1)) 3
theorem mkWays_in (n : Int) : mkWays n = 1 ∨ mkWays n = 2 ∨ mkWays n = 3 := by
  have h := pk_in (c := wrap64 (n - 1)) (n := 3) (by decide)
  unfold mkWays; omega
/-- a right policy of a raw one -/
def mkPol (p : DPol) : DPol := ⟨pk p.space 4, pk p.need 256, pk p.ban 256, mkWays p.ways, if mkWays p.ways % 2 = 1 then mkRules p.outs else [], if mkWays p.ways / 2 = 1 then mkRules p.ins else []⟩
def iPol (p : DPol) : Prop := i64 p.space ∧ i64 p.need ∧ i64 p.ban ∧ i64 p.ways ∧ (∀ r ∈ p.outs, iRule r) ∧ ∀ r ∈ p.ins, iRule r
theorem few_rules (l : List DRule) : few (mkRules l) 2 rulOk = true := by
  obtain ⟨h1, h2⟩ := mkRules_ok l
  simp only [few, Bool.and_eq_true, decide_eq_true_eq, List.all_eq_true]
  exact ⟨by omega, h1⟩
theorem mkPol_ok (p : DPol) : polOk (mkPol p) = true := by
  have h1 := pk_in (c := p.space) (n := 4) (by decide)
  have h2 := pk_in (c := p.need) (n := 256) (by decide)
  have h3 := pk_in (c := p.ban) (n := 256) (by decide)
  have a1 := few_rules p.outs
  have a2 := few_rules p.ins
  have e0 : few ([] : List DRule) 2 rulOk = true := rfl
  have b1 : btw (pk p.space 4) 0 3 = true := by simp [btw]; omega
  have b2 : selOk (pk p.need 256) (pk p.ban 256) = true := by simp [selOk, btw]; omega
  rcases mkWays_in p.ways with h | h | h <;> simp [mkPol, polOk, b1, b2, rulesOk, h, a1, a2, e0] <;> rfl
theorem btw_of {n lo hi : Int} (h1 : lo ≤ n) (h2 : n ≤ hi) : btw n lo hi = true := by simp [btw, h1, h2]
def iPod (p : DPod) : Prop := i64 p.host ∧ i64 p.ip ∧ i64 p.space ∧ i64 p.labels
def mkPod (p : DPod) : DPod := ⟨pk p.host 4, pk p.ip 4294967296, pk p.space 4, pk p.labels 256⟩
theorem mkPod_ok (p : DPod) : podOk (mkPod p) = true := by
  have h1 := pk_in (c := p.host) (n := 4) (by decide)
  have h2 := pk_in (c := p.ip) (n := 4294967296) (by decide)
  have h3 := pk_in (c := p.space) (n := 4) (by decide)
  have h4 := pk_in (c := p.labels) (n := 256) (by decide)
  have b1 := btw_of (n := pk p.host 4) (lo := 0) (hi := 3) h1.1 (by omega)
  have b2 := btw_of (n := pk p.ip 4294967296) (lo := 0) (hi := 4294967295) h2.1 (by omega)
  have b3 := btw_of (n := pk p.space 4) (lo := 0) (hi := 3) h3.1 (by omega)
  have b4 := btw_of (n := pk p.labels 256) (lo := 0) (hi := 255) h4.1 (by omega)
  simp only [mkPod, podOk, b1, b2, b3, b4, Bool.and_self]
/-- a pod more, if there is room and none with its address -/
def addPod (xs : List DPod) (p : DPod) : List DPod := if xs.length < 8 ∧ ixOf xs (mkPod p).ip < 0 then xs ++ [mkPod p] else xs
def mkPods (l : List DPod) : List DPod := l.foldl addPod []
theorem ix_neg {l : List DPod} {ip : Int} (h : ixOf l ip < 0) : ∀ q ∈ l, q.ip ≠ ip := by
  intro q hq he
  cases hp : podAt l ip with
  | none =>
    have := List.find?_eq_none.1 hp q hq
    simp [he] at this
  | some p =>
    obtain ⟨k, _, hk⟩ := podAt_ix hp
    omega
def podsGood (l : List DPod) : Prop := l.length ≤ 8 ∧ ∀ i, podGood l i = true
theorem podsGood_nil : podsGood [] := ⟨by simp, fun i => by simp [podGood]⟩
theorem podsGood_snoc {xs : List DPod} {p : DPod} (h : podsGood xs) (hl : xs.length < 8) (hp : podOk p = true) (hn : ∀ q ∈ xs, q.ip ≠ p.ip) : podsGood (xs ++ [p]) := by
  refine ⟨by simp; omega, fun i => ?_⟩
  rcases Nat.lt_trichotomy i xs.length with hi | hi | hi
  · have := h.2 i
    simp only [podGood, List.getElem?_append_left hi, List.take_append_of_le_length (Nat.le_of_lt hi)] at this ⊢
    exact this
  · subst hi
    simp only [podGood, List.getElem?_append_right (Nat.le_refl _), Nat.sub_self, List.getElem?_cons_zero, List.take_left']
    simp only [hp, Bool.true_and, List.all_eq_true, decide_eq_true_eq]
    exact hn
  · simp [podGood, List.getElem?_eq_none (show (xs ++ [p]).length ≤ i by simp; omega)]
theorem addPod_good {xs : List DPod} (h : podsGood xs) (p : DPod) : podsGood (addPod xs p) := by
  unfold addPod
  split
  · rename_i hc
    exact podsGood_snoc h hc.1 (mkPod_ok p) (ix_neg hc.2)
  · exact h
theorem foldPods_good : ∀ (l : List DPod) (xs : List DPod), podsGood xs → podsGood (l.foldl addPod xs)
  | [], xs, h => h
  | p :: l, xs, h => foldPods_good l _ (addPod_good h p)
theorem mkPods_good (l : List DPod) : podsGood (mkPods l) := foldPods_good l [] podsGood_nil
theorem foldPods_full : ∀ (l : List DPod) (xs : List DPod), 8 ≤ xs.length → l.foldl addPod xs = xs
  | [], xs, h => rfl
  | p :: l, xs, h => by
    rw [List.foldl_cons, addPod, if_neg (by omega)]
    exact foldPods_full l xs h
theorem mkPods_take {l : List DPod} {k : Nat} (h : 8 ≤ ((l.take k).foldl addPod []).length) : (l.take k).foldl addPod [] = mkPods l := by
  rw [mkPods]
  conv => rhs; rw [← List.take_append_drop k l, List.foldl_append]
  exact (foldPods_full _ _ h).symm
theorem fold_snoc {l : List DPod} {k : Nat} {p : DPod} (h : l[k]? = some p) : (l.take (k + 1)).foldl addPod [] = addPod ((l.take k).foldl addPod []) p := by
  rw [List.take_add_one, h, Option.toList_some, List.foldl_append]; rfl
def mkClu (c : DClu) : DClu := ⟨mkPods c.pods, (c.pols.take 4).map mkPol⟩
def iClu (c : DClu) : Prop := (∀ p ∈ c.pods, iPod p) ∧ ∀ q ∈ c.pols, iPol q
theorem right_good {c : DClu} (h1 : podsGood c.pods) (h2 : c.pols.length ≤ 4) (h3 : ∀ q ∈ c.pols, polOk q = true) : right c = (0, 0) := by
  refine right_ok (by have := h1.1; omega) (firstBad_none fun i _ => h1.2 i) (firstBad_none fun i _ => ?_)
  unfold polGood
  split
  · rfl
  · rename_i q hq
    exact h3 q (List.mem_of_getElem? hq)
theorem mkClu_right (c : DClu) : right (mkClu c) = (0, 0) := by
  refine right_good (mkPods_good _) (by simp [mkClu]; omega) fun q hq => ?_
  simp only [mkClu, List.mem_map] at hq
  obtain ⟨x, _, rfl⟩ := hq
  exact mkPol_ok x
end Go.Proofs.YtmkjlhplgcifiaaGreat
