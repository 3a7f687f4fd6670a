/-
  The ports and the far ends of a rule.
-/
import Derived.Test.YtmkjlhplgcifiaaGreatH12
import Derived.Test.YtmkjlhplgcifiaaGreatH06
import Derived.Test.YtmkjlhplgcifiaaGreatH08
import Derived.Test.YtmkjlhplgcifiaaGreatH09
import Derived.Deep.RegionHeld3
import Derived.Deep.CutRange
import Derived.Deep.DeepCutAuto
namespace Go.Proofs.YtmkjlhplgcifiaaGreat
open Go.ChangeShapes Go.WideShapes Go.ChangeAt Go.RowKit
set_option linter.unusedVariables false
set_option linter.unusedSimpArgs false
attribute [local simp] World.cell?_grow World.cell?_alloc_there
attribute [local go_sem] World.cell?_grow World.cell?_alloc_there eqg_blk std_blk eqg_pod std_pod eqg_sel std_sel eqg_prt std_prt
attribute [local go_sem ↓] eql_blk eql_sel neq_sel eql_prt eql_pod met_in1 met_in2 met_re1 met_re2 met_has1 met_has2 met_bl1 met_bl2
def dports (r : DRule) : List DPort := if r.ports.length = 0 then [⟨0, 0, 65535⟩] else r.ports
def dfars (pods : List DPod) (space : Int) (r : DRule) : List DBlk := if r.peers.length = 0 then [⟨0, 0⟩] else r.peers.flatMap (pBlocks pods space)
def rdPortsS (B0 B1 : Nat) (w : World) (a : Option Addr) (l : List DPort) : Prop := l.length * 24 ≤ 140737488351232 ∧ ∀ i x, l[i]? = some x → ∃ b off, a = some ⟨b, off, none⟩ ∧ (b < B0 ∨ B1 ≤ b) ∧ b < w.heap.size ∧ ePort B0 w b (off + i * 3) x
theorem len_zero {α : Type} {l : List α} (h : l.length = 0) : ((l.length : Int) == 0) = true := by simp [h]
theorem len_nonzero {α : Type} {l : List α} (h : ¬ l.length = 0) : ((l.length : Int) == 0) = false := by simp [h]
theorem ports_any (r : DRule) (pa qa : Option Addr) (pc qc B0 : Nat) (w : World) (hq : rdPorts B0 w qa r.ports) (hB : B0 ≤ w.heap.size) :
    Calls Tryz.prog 162 #[.agg #[.slice pa r.peers.length pc, .slice qa r.ports.length qc]] w fun e w' => (∃ a c, e = .returned (.slice a (dports r).length c) ∧ rdPortsS B0 w.heap.size w' a (dports r)) ∧ Below w.heap.size w w' := by
  have HQ := hid hq
  have hlen := hq.1
  clear hq
  by_cases h : r.ports.length = 0
  · have HF := hid (show dports r = [⟨0, 0, 65535⟩] by rw [dports, if_pos h])
    have h2 := len_zero h
    rw [HF.out]
    go_enter Tryz.func162, Tryz.ntmps162
    go_wp2_with (go_at_call 103; refine (everyPort_any _).mono ?_; rintro e w1 ⟨rfl, hb1⟩; obtain ⟨hc1, hf1⟩ := bcell hb1; have hz1 := hb_lt hb1)
    go_ret
    refine ⟨⟨_, _, rfl, by simp, fun i x hx => ?_⟩, bel⟩
    have hs : Below w.heap.size w w1 := bel
    match i, hx with
    | 0, hx =>
      simp at hx; subst hx
      exact ⟨w1.heap.size, 0, rfl, .inr hs.size, by simp, by simp [ePort]⟩
    | i + 1, hx => simp at hx
  · have HF := hid (show dports r = r.ports by rw [dports, if_neg h])
    have h2 := len_nonzero h
    rw [HF.out]
    go_enter Tryz.func162, Tryz.ntmps162
    go_wp2
    go_ret
    refine ⟨⟨_, _, rfl, hlen, fun i x hx => ?_⟩, bel⟩
    obtain ⟨b, off, e, hb, he⟩ := HQ.out.2 i x hx
    exact ⟨b, off, e, .inl hb, by simp; omega, ePort.ext _ ((show Below w.heap.size w _ from bel).mono hB) hb he⟩
theorem flatMap_le {α β : Type} {f : α → List β} {m : Nat} : ∀ (l : List α), (∀ x ∈ l, (f x).length ≤ m) → (l.flatMap f).length ≤ l.length * m
  | [], _ => by simp
  | x :: l, h => by
    have h1 := h x (by simp)
    have h2 := flatMap_le l (fun y hy => h y (by simp [hy]))
    rw [List.flatMap_cons, List.length_append, List.length_cons, Nat.add_mul]; omega
theorem pBlocks_le {pods : List DPod} {space : Int} {x : DPeer} (hx : peerOk x = true) (hpl : pods.length ≤ 8) : (pBlocks pods space x).length ≤ 65 := by
  unfold pBlocks
  split
  · rw [List.length_map]; exact Nat.le_trans (List.length_filter_le _ _) (by omega)
  · rename_i hk
    obtain ⟨hk2, hb, he⟩ := peerOk_blocks' hx hk
    rw [peerOk, if_neg hk] at hx
    simp only [Bool.and_eq_true, few, decide_eq_true_eq] at hx
    exact wout_le 33 hb he (Int.ofNat_le.1 hx.2.1)
theorem rulOk_lens {r : DRule} (h : rulOk r = true) : r.peers.length ≤ 2 ∧ r.ports.length ≤ 2 := by
  simp only [rulOk, few, Bool.and_eq_true, decide_eq_true_eq] at h
  exact ⟨Int.ofNat_le.1 h.1.1, Int.ofNat_le.1 h.2.1⟩
theorem take_flat {α β : Type} {l : List α} {f : α → List β} {k : Nat} {x : α} (h : l[k]? = some x) : (l.take (k + 1)).flatMap f = (l.take k).flatMap f ++ f x := by
  rw [List.take_add_one, h]; simp
theorem take_flat_le {l : List DPeer} {pods : List DPod} {space : Int} (h : ∀ x ∈ l, peerOk x = true) (hpl : pods.length ≤ 8) (hl : l.length ≤ 2) (k : Nat) : ((l.take k).flatMap (pBlocks pods space)).length ≤ 130 := by
  have h1 := flatMap_le (f := pBlocks pods space) (m := 65) (l.take k) (fun x hx => pBlocks_le (h x (List.mem_of_mem_take hx)) hpl)
  have h2 : (l.take k).length ≤ 2 := by rw [List.length_take]; omega
  omega
set_option maxRecDepth 100000 in
set_option maxHeartbeats 1000000 in
theorem fars_any (r : DRule) (pa qa : Option Addr) (pc qc : Nat) (space : Int) (sa : Option Addr) (pods : List DPod) (sc : Nat) (w : World) (hp : rdPeers w.heap.size w pa r.peers) (hd : rdPods w.heap.size w sa pods) (ho : podsOk pods) (hpl : pods.length ≤ 8)
    (hr : rulOk r = true) (h0 : 0 ≤ space) (h1 : space ≤ 3) :
    Calls Tryz.prog 161 #[.agg #[.slice pa r.peers.length pc, .slice qa r.ports.length qc], .agg #[.int .i64 space, .slice sa pods.length sc]] w
      fun e w' => (∃ v, e = .returned v ∧ w'.ownsRow w.heap.size 47 2 v (dfars pods space r).length ((dfars pods space r).flatMap encBlk)) ∧ Below w.heap.size w w' := by
  have HP := hid hp
  have HD := hid hd
  have HO := hid ho
  have HOK := hid (rulOk_true hr).1
  have hl2 := (rulOk_lens hr).1
  have hlen := hp.1
  clear hp hd ho hr
  by_cases h : r.peers.length = 0
  · have HF := hid (show dfars pods space r = [⟨0, 0⟩] by rw [dfars, if_pos h])
    have h2 := len_zero h
    rw [HF.out]
    go_enter Tryz.func161, Tryz.ntmps161
    go_wp2_with (go_at_call 102; refine (allB_any _).mono ?_; rintro e w1 ⟨rfl, hb1⟩; obtain ⟨hc1, hf1⟩ := bcell hb1; have hz1 := hb_lt hb1)
    go_ret
    exact ⟨⟨_, rfl, own_built w1 [.int .i64 0, .int .i64 0] w.heap.size _ 2 1 (by have := (show Below w.heap.size w w1 from bel).size; omega) rfl (by unfold maxLen; omega)⟩, bel⟩
  · have HF := hid (show dfars pods space r = r.peers.flatMap (pBlocks pods space) by rw [dfars, if_neg h])
    have h2 := len_nonzero h
    rw [HF.out]
    obtain ⟨i0, hi, iz0, iz1, iz2⟩ := info_parts info_blk
    go_enter Tryz.func161, Tryz.ntmps161
    go_wp2
    have hBa : Below w.heap.size w ((w.alloc (.cells #[.slice pa r.peers.length pc, .slice qa r.ports.length qc] 64)).alloc (.cells #[.int .i64 space, .slice sa pods.length sc] 176)) := bel
    have s0 : ((w.alloc (.cells #[.slice pa r.peers.length pc, .slice qa r.ports.length qc] 64)).alloc (.cells #[.int .i64 space, .slice sa pods.length sc] 176)).cell? ⟨w.heap.size + 1, 0, none⟩ = some (.int .i64 space) := by simp [go_sem]
    have s1 : ((w.alloc (.cells #[.slice pa r.peers.length pc, .slice qa r.ports.length qc] 64)).alloc (.cells #[.int .i64 space, .slice sa pods.length sc] 176)).cell? ⟨w.heap.size + 1, 1, none⟩ = some (.slice sa pods.length sc) := by simp [go_sem]
    generalize (w.alloc (.cells #[.slice pa r.peers.length pc, .slice qa r.ports.length qc] 64)).alloc (.cells #[.int .i64 space, .slice sa pods.length sc] 176) = W at hBa s0 s1 ⊢
    have HBa := hid hBa
    have hWs := hBa.size
    clear hBa
    go_loopw [5, 17] (fun kv i wr => ∃ k : Nat, k ≤ r.peers.length ∧ i = .int .i64 k ∧ wr.ownsRow W.heap.size 47 2 kv ((r.peers.take k).flatMap (pBlocks pods space)).length (((r.peers.take k).flatMap (pBlocks pods space)).flatMap encBlk) ∧ Below W.heap.size W wr) (fun _ i _ => r.peers.length - (intOf i).toNat)
    case atStart => exact ⟨0, Nat.zero_le _, rfl, World.ownsRow_nil _ _ _ _, Below.refl _ _⟩
    case round =>
      obtain ⟨k, hk, rfl, hown, hbw⟩ := hrel
      have HO2 := hid hown
      have HBW := hid hbw
      have HB := hid (show Below w.heap.size w wr from HBa.out.trans (hbw.mono hWs))
      have hfl := take_flat_le (space := space) HOK.out hpl hl2 k
      clear hown
      by_cases hlt : k < r.peers.length
      · obtain ⟨x, hxk⟩ : ∃ x, r.peers[k]? = some x := ⟨r.peers[k], by simp [hlt]⟩
        have HX := hid hxk
        have HXO := hid (HOK.out x (List.mem_of_getElem? hxk))
        have hxl := pBlocks_le (space := space) (HOK.out x (List.mem_of_getElem? hxk)) hpl
        have HT := hid (take_flat (f := pBlocks pods space) hxk)
        clear hxk
        obtain ⟨b, off, rfl, hb, c0, c1, c2, c3, c4, c5, ea, ec, c6, hre⟩ := HP.out.2 k x HX.out
        have d0 := cell_to c0 HB.out
        have d1 := cell_to c1 HB.out
        have d2 := cell_to c2 HB.out
        have d3 := cell_to c3 HB.out
        have d4 := cell_to c4 HB.out
        have d5 := cell_to c5 HB.out
        have d6 := cell_to c6 HB.out
        have t0 := cell_to s0 hbw
        have t1 := cell_to s1 hbw
        have HRE := hid hre
        clear hre c0 c1 c2 c3 c4 c5 c6
        go_wp2_with (first
          | (go_at_call 176; refine (peerBlocks_any x _ _ _ _ _ _ _ (rdBlks.ext (HB.out.alloc HB.out.size _) (by have := HB.out.size; simp; omega) HRE.out) (rdPods.ext (HB.out.alloc HB.out.size _) (by have := HB.out.size; simp; omega) HD.out) HO.out hpl HXO.out h0 h1).mono ?_; rintro e w2 ⟨⟨a2, cc2, rfl, hr2⟩, hb2⟩; have HR2 := hid hr2; have HO3 := hid (own_to (HO2.out.alloc (.cells #[.int .i64 x.kind, .int .i64 x.need, .int .i64 x.ban, .int .i64 x.spaces, .int .i64 x.base, .int .i64 x.bits, .slice ea x.exc.length ec] 69)) hb2); have hW2 : Below W.heap.size W w2 := (HBW.out.alloc HBW.out.size _).trans (hb2.mono (by have := HBW.out.size; simp; omega)); clear hr2)
          | (at_builtin; refine wpList_append_list _ rfl _ _ 67 rfl W.heap.size 47 i0 _ 2 16 Tryz.underlying67 hi iz0 iz1 iz2 rfl (by decide) _ _ _ rfl HO3.out a2 _ cc2 ((pBlocks pods space x).flatMap encBlk) rfl (oflat_len (k := 2) (fun _ => rfl) _) (news_of (k := 2) (fun _ => rfl) (by decide) HR2.out (fun _ _ _ => eBlk_cells)) (encBlk_one _) (by unfold maxLen; omega) (by omega) hW2.size ?_; intro v' w3 hown' hg3))
        refine ⟨⟨k + 1, by omega, by go_num, ?_, own_below hW2 hW2.size HO3.out hg3⟩, by simp [intOf]; omega⟩
        rw [HT.out, List.length_append, List.flatMap_append]; exact hown'
      · go_wp2
        have he : r.peers.take k = r.peers := List.take_of_length_le (by omega)
        have ho := HO2.out
        rw [he] at ho
        go_ret
        exact ⟨⟨_, rfl, own_le ho hWs⟩, HB.out⟩
def iBlk (b : DBlk) : Prop := i64 b.base ∧ i64 b.bits
def iPeer (p : DPeer) : Prop := i64 p.kind ∧ i64 p.need ∧ i64 p.ban ∧ i64 p.spaces ∧ i64 p.base ∧ i64 p.bits ∧ ∀ b ∈ p.exc, iBlk b
def iPort (p : DPort) : Prop := i64 p.proto ∧ i64 p.lo ∧ i64 p.hi
def iRule (r : DRule) : Prop := (∀ p ∈ r.peers, iPeer p) ∧ ∀ p ∈ r.ports, iPort p
def mkPeer (p : DPeer) : DPeer := if pk p.kind 2 = 1 then ⟨1, pk p.need 256, pk p.ban 256, pk p.spaces 16, 0, 0, []⟩ else ⟨2, 0, 0, 0, (mkBlk ⟨p.base, p.bits⟩).base, (mkBlk ⟨p.base, p.bits⟩).bits, (p.exc.take 2).map mkBlk⟩
def mkPort (p : DPort) : DPort := if pk p.hi 65536 < pk p.lo 65536 then ⟨pk p.proto 3, pk p.hi 65536, pk p.lo 65536⟩ else ⟨pk p.proto 3, pk p.lo 65536, pk p.hi 65536⟩
def mkRule (r : DRule) : DRule := ⟨(r.peers.take 2).map mkPeer, (r.ports.take 2).map mkPort⟩
def mkRules (l : List DRule) : List DRule := (l.take 2).map mkRule
theorem mkPort_ok (p : DPort) : prtOk (mkPort p) = true := by
  have h1 := pk_in (c := p.proto) (n := 3) (by decide)
  have h2 := pk_in (c := p.lo) (n := 65536) (by decide)
  have h3 := pk_in (c := p.hi) (n := 65536) (by decide)
  unfold mkPort
  split
  · simp only [prtOk, btw, Bool.and_eq_true, decide_eq_true_eq]; omega
  · simp only [prtOk, btw, Bool.and_eq_true, decide_eq_true_eq]; omega
theorem mkPeer_ok (p : DPeer) : peerOk (mkPeer p) = true := by
  have h1 := pk_in (c := p.need) (n := 256) (by decide)
  have h2 := pk_in (c := p.ban) (n := 256) (by decide)
  have h3 := pk_in (c := p.spaces) (n := 16) (by decide)
  unfold mkPeer
  split
  · have e1 : pk p.need 256 ≤ 255 := by omega
    have e2 : pk p.ban 256 ≤ 255 := by omega
    have e3 : pk p.spaces 16 ≤ 15 := by omega
    simp [peerOk, selOk, btw, h1, h2, h3, e1, e2, e3]
  · have hb : blkOk ⟨(mkBlk ⟨p.base, p.bits⟩).base, (mkBlk ⟨p.base, p.bits⟩).bits⟩ = true := mkBlk_ok ⟨p.base, p.bits⟩
    have he : few ((p.exc.take 2).map mkBlk) 2 blkOk = true := by
      simp only [few, Bool.and_eq_true, decide_eq_true_eq, List.length_map, List.length_take, List.all_map, List.all_eq_true]
      exact ⟨by omega, fun x _ => mkBlk_ok x⟩
    unfold peerOk
    rw [if_neg (show ¬ (2 : Int) = 1 by decide)]
    simp only [hb, he]
    rfl
theorem mkRule_ok (r : DRule) : rulOk (mkRule r) = true := by
  simp only [rulOk, few, mkRule, Bool.and_eq_true, decide_eq_true_eq, List.length_map, List.length_take, List.all_map, List.all_eq_true]
  exact ⟨⟨by omega, fun x _ => mkPeer_ok x⟩, by omega, fun x _ => mkPort_ok x⟩
theorem mkRules_ok (l : List DRule) : (∀ r ∈ mkRules l, rulOk r = true) ∧ (mkRules l).length ≤ 2 := by
  refine ⟨fun r hr => ?_, by simp [mkRules]; omega⟩
  obtain ⟨x, _, rfl⟩ := List.mem_map.1 hr
  exact mkRule_ok x
structure XPeer where
  d : DPeer
  ea : Option Addr
  ec : Nat
def encXPeer (x : XPeer) : List Value := [.int .i64 x.d.kind, .int .i64 x.d.need, .int .i64 x.d.ban, .int .i64 x.d.spaces, .int .i64 x.d.base, .int .i64 x.d.bits, .slice x.ea x.d.exc.length x.ec]
structure XRule where
  d : DRule
  pa : Option Addr
  pc : Nat
  qa : Option Addr
  qc : Nat
def encXRule (x : XRule) : List Value := [.slice x.pa x.d.peers.length x.pc, .slice x.qa x.d.ports.length x.qc]
def encPort (x : DPort) : List Value := [.int .i64 x.proto, .int .i64 x.lo, .int .i64 x.hi]
theorem blk_cell {w : World} {b : Nat} {arr : Array Value} {t : TypeId} (h : w.heap[b]? = some (.cells arr t (0, 0))) (o : Nat) : w.cell? ⟨b, o, none⟩ = arr[o]? := by simp [World.cell?, h]
theorem blk_frozen {w : World} {b : Nat} {arr : Array Value} {t : TypeId} (h : w.heap[b]? = some (.cells arr t (0, 0))) (o : Nat) : w.frozen? ⟨b, o, none⟩ = false := by simp [World.frozen?, h]
theorem gb_below {W w1 w2 : World} {r : Option Nat} (h : W.grownBy w1 r) (hb : Below w1.heap.size w1 w2) : W.grownBy w2 r :=
  ⟨hb.os.trans h.os, hb.tape.trans h.tape, hb.output.trans h.output, Nat.le_trans h.size hb.size, fun k hk hne => (hb.block k (Nat.lt_of_lt_of_le hk h.size)).trans (h.block k hk hne)⟩
theorem gb_row {W w1 w2 : World} {r r2 : Option Nat} (h : W.grownBy w1 r) (k : w1.grownBy w2 r2) (hr : ∀ g, r2 = some g → W.heap.size ≤ g) : W.grownBy w2 r :=
  ⟨k.os.trans h.os, k.tape.trans h.tape, k.output.trans h.output, Nat.le_trans h.size k.size, fun b hb hne => (k.block b (Nat.lt_of_lt_of_le hb h.size) (fun e => by have := hr b e.symm; omega)).trans (h.block b hb hne)⟩
theorem gb_set {W w1 : World} {q : Nat} (h : W.grownBy w1 (some q)) (o : Nat) (u : Value) : W.grownBy (w1.setCell ⟨q, o, none⟩ u) (some q) := by
  have hb := (Below.refl q w1).setCell (p := ⟨q, o, none⟩) (Nat.le_refl _) u
  exact ⟨hb.os.trans h.os, hb.tape.trans h.tape, hb.output.trans h.output, Nat.le_trans h.size hb.size, fun b hb' hne => (Below.heap_setCell _ _ _ _ (fun e => hne (by rw [e]))).trans (h.block b hb' hne)⟩
theorem gb_low {W w1 : World} {q B : Nat} (h : W.grownBy w1 (some q)) (hq : B ≤ q) (hB : B ≤ W.heap.size) : Below B W w1 := (Below.refl B W).grown h hB (fun k hk => by cases hk; exact hq)
theorem gb_refl (W : World) (r : Option Nat) : W.grownBy W r := ⟨rfl, rfl, rfl, Nat.le_refl _, fun _ _ _ => rfl⟩
theorem set_blk {w : World} {g : Nat} {cs : Array Value} {t : TypeId} (h : w.heap[g]? = some (.cells cs t (0, 0))) (i : Nat) (v : Value) : (w.setCell ⟨g, i, none⟩ v).heap[g]? = some (.cells (cs.setIfInBounds i v) t (0, 0)) := heap_setCell_same w g i cs t v h
def NPeer (B : Nat) (w : World) (y : XPeer) : Prop := rdBlks B w y.ea y.d.exc
def NRule (B : Nat) (w : World) (x : XRule) : Prop := rdPeers B w x.pa x.d.peers ∧ rdPorts B w x.qa x.d.ports
def NNo {X : Type} (_ : Nat) (_ : World) (_ : X) : Prop := True
theorem NPeer.mono : Mono NPeer := fun _ _ _ _ _ hs hB h => rdBlks.sub hs hB h
theorem NRule.mono : Mono NRule := fun _ _ _ _ _ hs hB h => ⟨rdPeers.sub hs hB h.1, rdPorts.sub hs hB h.2⟩
theorem NNo.mono {X : Type} : Mono (NNo (X := X)) := fun _ _ _ _ _ _ _ _ => trivial
abbrev UpBlks := Up 47 2 encBlk NNo
abbrev UpPorts := Up 109 3 encPort NNo
abbrev UpPeers := Up 69 7 encXPeer NPeer
abbrev UpRules := Up 64 2 encXRule NRule
theorem info_peer : (Tryz.prog.info? 69).map (fun i => (i.zero, i.size, i.bytes)) = some (some (.agg #[.int .i64 0, .int .i64 0, .int .i64 0, .int .i64 0, .int .i64 0, .int .i64 0, .slice none 0 0]), 7, 72) := by kernel_rfl
theorem info_rule : (Tryz.prog.info? 64).map (fun i => (i.zero, i.size, i.bytes)) = some (some (.agg #[.slice none 0 0, .slice none 0 0]), 2, 48) := by kernel_rfl
theorem info_port : (Tryz.prog.info? 109).map (fun i => (i.zero, i.size, i.bytes)) = some (some (.agg #[.int .i64 0, .int .i64 0, .int .i64 0]), 3, 24) := by kernel_rfl
theorem new_heap (w : World) (o : Obj) : (w.alloc o).heap[w.heap.size]? = some o := by show (w.heap.push _)[w.heap.size]? = _; simp
end Go.Proofs.YtmkjlhplgcifiaaGreat
namespace Go.Proofs.YtmkjlhplgcifiaaGreat
open Go.ChangeShapes Go.WideShapes Go.ChangeAt Go.RowKit
set_option linter.unusedVariables false
set_option linter.unusedSimpArgs false
attribute [local simp] World.cell?_grow World.cell?_alloc_there
attribute [local go_sem] World.cell?_grow World.cell?_alloc_there eqg_blk std_blk eqg_pod std_pod eqg_sel std_sel eqg_prt std_prt
attribute [local go_sem ↓] eql_blk eql_sel neq_sel eql_prt eql_pod met_in1 met_in2 met_re1 met_re2 met_has1 met_has2
theorem appClo_in (x : DPol) (oa ia : Option Addr) (on inn oc ic : Nat) (p : DPod) (wb pb : Nat) (w : World) (hq : polOk x = true) (hp : podOk p = true)
    (cw : w.cell? ⟨wb, 0, none⟩ = some (.int .i64 2)) (c0 : w.cell? ⟨pb, 0, none⟩ = some (.int .i64 p.host)) (c1 : w.cell? ⟨pb, 1, none⟩ = some (.int .i64 p.ip)) (c2 : w.cell? ⟨pb, 2, none⟩ = some (.int .i64 p.space)) (c3 : w.cell? ⟨pb, 3, none⟩ = some (.int .i64 p.labels)) :
    Calls Tryz.prog 123 #[.agg #[.int .i64 x.space, .int .i64 x.need, .int .i64 x.ban, .int .i64 x.ways, .slice oa on oc, .slice ia inn ic], .pointer (some ⟨wb, 0, none⟩), .pointer (some ⟨pb, 0, none⟩)] w fun e w' => e = .returned (.bool (applies 2 p x)) ∧ Below w.heap.size w w' := by
  have l1 := cell_lt cw
  have l2 := cell_lt c0
  have HQ := hid hq
  have HP := hid hp
  clear hq hp
  go_enter Tryz.func123, Tryz.ntmps123
  go_wp2_with (go_at_call 124; refine (applies_in x _ _ _ _ _ _ p _ HQ.out HP.out).mono ?_; rintro e w1 ⟨rfl, hb1⟩; obtain ⟨hc1, hf1⟩ := bcell hb1; have hz1 := hb_lt hb1)
  go_ret
  exact ⟨rfl, bel⟩
set_option maxHeartbeats 1000000 in
theorem applying_in (p : DPod) (l : List DPol) (qa : Option Addr) (qc : Nat) (w : World) (hq : rdPols w.heap.size w qa l) (hok : ∀ q ∈ l, polOk q = true) (hp : podOk p = true) :
    Calls Tryz.prog 94 #[.slice qa l.length qc, .int .i64 2, .agg #[.int .i64 p.host, .int .i64 p.ip, .int .i64 p.space, .int .i64 p.labels]] w fun e w' => (∃ a' c', e = .returned (.slice a' (l.filter (applies 2 p)).length c') ∧ rdPols w'.heap.size w' a' (l.filter (applies 2 p))) ∧ Below w.heap.size w w' := by
  have HQ := hid hq
  have HO := hid hok
  have HP := hid hp
  have hmf := mkFunc
  clear hq hok hp
  go_enter Tryz.func94, Tryz.ntmps94
  go_wp2_with (go_at_call 122; go_must (refine (keepPol (applies 2 p) _ _ _ _ _ _ (rdPols.to HQ.out bel) (fun x oa ia oc ic w2 hx hb2 _ _ => appClo_in x oa ia _ _ oc ic p _ _ w2 (HO.out x hx) HP.out (cell_to (by simp [go_sem]) hb2) (cell_to (by simp [go_sem]) hb2) (cell_to (by simp [go_sem]) hb2) (cell_to (by simp [go_sem]) hb2) (cell_to (by simp [go_sem]) hb2))).mono ?_); rintro e w3 ⟨⟨a', c', rfl, hr3⟩, hb3⟩; have HR3 := hid hr3; clear hr3)
  go_ret
  exact ⟨⟨_, _, rfl, HR3.out⟩, bel⟩
theorem mayClo_in (x : DPol) (oa ia : Option Addr) (oc ic : Nat) (sa : Option Addr) (pods : List DPod) (sc : Nat) (k : DPkt) (wb cb kb : Nat) (w : World)
    (hr : rdRules w.heap.size w ia x.ins) (hd : rdPods w.heap.size w sa pods) (ho : podsOk pods) (hq : polOk x = true) (hk : pktOk k = true)
    (cw : w.cell? ⟨wb, 0, none⟩ = some (.int .i64 2)) (cc : w.cell? ⟨cb, 0, none⟩ = some (.slice sa pods.length sc)) (c0 : w.cell? ⟨kb, 0, none⟩ = some (.int .i64 k.src)) (c1 : w.cell? ⟨kb, 1, none⟩ = some (.int .i64 k.dst)) (c2 : w.cell? ⟨kb, 2, none⟩ = some (.int .i64 k.proto)) (c3 : w.cell? ⟨kb, 3, none⟩ = some (.int .i64 k.port)) :
    Calls Tryz.prog 96 #[.agg #[.int .i64 x.space, .int .i64 x.need, .int .i64 x.ban, .int .i64 x.ways, .slice oa x.outs.length oc, .slice ia x.ins.length ic], .pointer (some ⟨wb, 0, none⟩), .pointer (some ⟨cb, 0, none⟩), .pointer (some ⟨kb, 0, none⟩)] w fun e w' => e = .returned (.bool (letsGo pods 2 k k.src x)) ∧ Below w.heap.size w w' := by
  have l1 := cell_lt cw
  have l2 := cell_lt cc
  have l3 := cell_lt c0
  have HR := hid hr
  have HD := hid hd
  have HO := hid ho
  have HQ := hid hq
  have HK := hid hk
  clear hr hd ho hq hk
  go_enter Tryz.func96, Tryz.ntmps96
  go_wp2_with (go_at_call 97; refine (letsGo_in x _ _ _ _ _ pods _ k _ (rdRules.to HR.out bel) (rdPods.to HD.out bel) HO.out HQ.out HK.out).mono ?_; rintro e w1 ⟨rfl, hb1⟩; obtain ⟨hc1, hf1⟩ := bcell hb1; have hz1 := hb_lt hb1)
  go_ret
  exact ⟨rfl, bel⟩
set_option maxHeartbeats 4000000 in
theorem mayGo_in (c : DClu) (k : DPkt) (pa qa : Option Addr) (pc qc : Nat) (w : World) (hp : rdPods w.heap.size w pa c.pods) (hq : rdPols w.heap.size w qa c.pols) (hc : cluOk c) (hk : pktOk k = true) :
    Calls Tryz.prog 57 #[.agg #[.slice pa c.pods.length pc, .slice qa c.pols.length qc], .int .i64 2, .agg #[.int .i64 k.src, .int .i64 k.dst, .int .i64 k.proto, .int .i64 k.port]] w fun e w' => e = .returned (.bool (may c 2 k k.dst k.src)) ∧ Below w.heap.size w w' := by
  have HP := hid hp
  have HQ := hid hq
  have HC := hid hc
  have HK := hid hk
  have hl2 := hq.1
  have hmf := mkFunc
  clear hp hq hc hk
  cases hpa : podAt c.pods k.dst with
  | none =>
    have HA := hid hpa
    have HF := hid (may_none (way := 2) (k := k) (far := k.src) hpa)
    clear hpa
    go_enter Tryz.func57, Tryz.ntmps57
    go_wp2_with (first
      | (go_at_call 92; refine (ends_in k _).mono ?_; rintro e w1 ⟨rfl, hb1⟩; obtain ⟨hc1, hf1⟩ := bcell hb1; have hz1 := hb_lt hb1)
      | (go_at_call 93; refine (at_any _ _ c.pods _ _ (rdPods.to HP.out bel)).mono ?_; rw [HA.out, atV]; rintro e w2 ⟨rfl, hb2⟩; obtain ⟨hc2, hf2⟩ := bcell hb2; have hz2 := hb_lt hb2))
    go_ret
    exact ⟨ret_bool (by rw [HF.out]), bel⟩
  | some p =>
    have HA := hid hpa
    have HPP := hid (HC.out.1.1 p (List.mem_of_find?_eq_some hpa))
    have HF := hid (may_held (way := 2) (k := k) (far := k.src) hpa)
    clear hpa
    go_enter Tryz.func57, Tryz.ntmps57
    go_wp2_with (first
      | (go_at_call 92; refine (ends_in k _).mono ?_; rintro e w1 ⟨rfl, hb1⟩; obtain ⟨hc1, hf1⟩ := bcell hb1; have hz1 := hb_lt hb1; have ec0 : w1.cell? ⟨w.heap.size, 0, none⟩ = some (.slice pa c.pods.length pc) := cell_to (by simp [go_sem]) hb1; have ec1 : w1.cell? ⟨w.heap.size, 1, none⟩ = some (.slice qa c.pols.length qc) := cell_to (by simp [go_sem]) hb1; have ew : w1.cell? ⟨w.heap.size + 1, 0, none⟩ = some (.int .i64 2) := cell_to (by simp [go_sem]) hb1; have ek0 : w1.cell? ⟨w.heap.size + 1 + 1, 0, none⟩ = some (.int .i64 k.src) := cell_to (by simp [go_sem]) hb1; have ek1 : w1.cell? ⟨w.heap.size + 1 + 1, 1, none⟩ = some (.int .i64 k.dst) := cell_to (by simp [go_sem]) hb1; have ek2 : w1.cell? ⟨w.heap.size + 1 + 1, 2, none⟩ = some (.int .i64 k.proto) := cell_to (by simp [go_sem]) hb1; have ek3 : w1.cell? ⟨w.heap.size + 1 + 1, 3, none⟩ = some (.int .i64 k.port) := cell_to (by simp [go_sem]) hb1)
      | (go_at_call 93; refine (at_any _ _ c.pods _ _ (rdPods.to HP.out bel)).mono ?_; rw [HA.out, atV]; rintro e w2 ⟨rfl, hb2⟩; obtain ⟨hc2, hf2⟩ := bcell hb2; have hz2 := hb_lt hb2; have fc0 := cell_to ec0 hb2; have fc1 := cell_to ec1 hb2; have fw := cell_to ew hb2; have fk0 := cell_to ek0 hb2; have fk1 := cell_to ek1 hb2; have fk2 := cell_to ek2 hb2; have fk3 := cell_to ek3 hb2; have ed0 : ∀ o, (w2.alloc o).cell? ⟨w.heap.size, 0, none⟩ = some (.slice pa c.pods.length pc) := fun o => cell_past fc0; have ed1 : ∀ o, (w2.alloc o).cell? ⟨w.heap.size, 1, none⟩ = some (.slice qa c.pols.length qc) := fun o => cell_past fc1; have edw : ∀ o, (w2.alloc o).cell? ⟨w.heap.size + 1, 0, none⟩ = some (.int .i64 2) := fun o => cell_past fw)
      | (go_at_call 94; refine (applying_in p c.pols _ _ _ (rdPols.to HQ.out bel) HC.out.2 HPP.out).mono ?_; rintro e w3 ⟨⟨a', c', rfl, hr3⟩, hb3⟩; have HR3 := hid hr3; clear hr3; have hz3 := hb_lt hb3)
      | (go_at_call 95; go_must (refine (eoaPol (letsGo c.pods 2 k k.src) _ _ _ _ _ _ _ HR3.out (fun x oa ia oc ic w4 hx hb4 hro hri => mayClo_in x oa ia oc ic pa c.pods pc k _ _ _ w4 hri (rdPods.to (rdPods.to HP.out bel) hb4) HC.out.1 (HC.out.2 x (List.mem_filter.1 hx).1) HK.out (cell_to (cell_to (cell_past fw) hb3) hb4) (cell_to (cell_to (cell_past fc0) hb3) hb4) (cell_to (cell_to (cell_past fk0) hb3) hb4) (cell_to (cell_to (cell_past fk1) hb3) hb4) (cell_to (cell_to (cell_past fk2) hb3) hb4) (cell_to (cell_to (cell_past fk3) hb3) hb4))).mono ?_); rintro e w4 ⟨rfl, hb4⟩; obtain ⟨hc4, hf4⟩ := bcell hb4; have hz4 := hb_lt hb4))
    go_ret
    exact ⟨ret_bool (by rw [HF.out]), bel⟩
end Go.Proofs.YtmkjlhplgcifiaaGreat
