/-
  palisadekeep: rules: right ones of raw ones.
-/
import Derived.Test.YtmkjlhplgcifiaaGreatJ15
import Derived.Test.YtmkjlhplgcifiaaGreatJ16
import Derived.Test.YtmkjlhplgcifiaaGreatJ23
import Derived.Deep.RegionHeld3
import Derived.Deep.CutRange
import Derived.Deep.DeepCutAuto
namespace Go.Proofs.YtmkjlhplgcifiaaGreat
open Go.ChangeShapes Go.WideShapes Go.ChangeAt Go.RowKit
attribute [local simp] World.cell?_grow
attribute [local go_sem] World.cell?_grow
attribute [local simp] World.cell?_alloc_there
attribute [local go_sem] World.cell?_alloc_there
attribute [local go_sem] eqg_blk std_blk eqg_pod std_pod eqg_sel std_sel eqg_prt std_prt
attribute [local go_sem ↓] eql_blk eql_sel neq_sel eql_prt eql_pod
attribute [local go_sem ↓] met_in1 met_in2 met_re1 met_re2
attribute [local go_sem ↓] met_has1 met_has2
attribute [local go_sem ↓] met_bl1 met_bl2
set_option linter.unusedVariables false
set_option linter.unusedSimpArgs false
def iBlk (b : DBlk) : Prop := i64 b.base ∧ i64 b.bits
def iPeer (p : DPeer) : Prop := i64 p.kind ∧ i64 p.need ∧ i64 p.ban ∧ i64 p.spaces ∧ i64 p.base ∧ i64 p.bits ∧ ∀ b ∈ p.exc, iBlk b
def iPort (p : DPort) : Prop := i64 p.proto ∧ i64 p.lo ∧ i64 p.hi
def iRule (r : DRule) : Prop := (∀ p ∈ r.peers, iPeer p) ∧ ∀ p ∈ r.ports, iPort p
/-- right things of raw ones -/
def mkPeer (p : DPeer) : DPeer := if pk p.kind 2 = 1 then ⟨1, pk p.need 256, pk p.ban 256, pk p.spaces 16, 0, 0, []⟩ else ⟨2, 0, 0, 0, (mkBlk ⟨p.base, p.bits⟩).base, (mkBlk ⟨p.base, p.bits⟩).bits, (p.exc.take 2).map mkBlk⟩
def mkPort (p : DPort) : DPort := if pk p.hi 65536 < pk p.lo 65536 then ⟨pk p.proto 3, pk p.hi 65536, pk p.lo 65536⟩ else ⟨pk p.proto 3, pk p.lo 65536, pk p.hi 65536⟩
def mkRule (r : DRule) : DRule := ⟨(r.peers.take 2).map mkPeer, (r.ports.take 2).map mkPort⟩
def mkRules (l : List DRule) : List DRule := (l.take 2).map mkRule
theorem mkPort_ok (p : DPort) : prtOk (mkPort p) = true := by
  have h1 := pk_in (c := p.proto) (n := 3) (by decide)
  have h2 := pk_in (c := p.lo) (n := 65536) (by decide)
  have h3 := pk_in (c := p.hi) (n := 65536) (by decide)
  unfold mkPort
  split
  · simp only [prtOk, btw, Bool.and_eq_true, decide_eq_true_eq]; omega
  · simp only [prtOk, btw, Bool.and_eq_true, decide_eq_true_eq]; omega
theorem mkPeer_ok (p : DPeer) : peerOk (mkPeer p) = true := by
  have h1 := pk_in (c := p.need) (n := 256) (by decide)
  have h2 := pk_in (c := p.ban) (n := 256) (by decide)
  have h3 := pk_in (c := p.spaces) (n := 16) (by decide)
  unfold mkPeer
  split
  · have e1 : pk p.need 256 ≤ 255 := by omega
    have e2 : pk p.ban 256 ≤ 255 := by omega
    have e3 : pk p.spaces 16 ≤ 15 := by omega
    simp [peerOk, selOk, btw, h1, h2, h3, e1, e2, e3]
  · have hb : blkOk ⟨(mkBlk ⟨p.base, p.bits⟩).base, (mkBlk ⟨p.base, p.bits⟩).bits⟩ = true := mkBlk_ok ⟨p.base, p.bits⟩
    have he : few ((p.exc.take 2).map mkBlk) 2 blkOk = true := by
      simp only [few, Bool.and_eq_true, decide_eq_true_eq, List.length_map, List.length_take, List.all_map, List.all_eq_true]
      exact ⟨by omega, fun x _ => mkBlk_ok x⟩
    unfold peerOk
    rw [if_neg (show ¬ (2 : Int) = 1 by decide)]
    simp only [hb, he]
    rfl
theorem mkRule_ok (r : DRule) : rulOk (mkRule r) = true := by
  simp only [rulOk, few, mkRule, Bool.and_eq_true, decide_eq_true_eq, List.length_map, List.length_take, List.all_map, List.all_eq_true]
  exact ⟨⟨by omega, fun x _ => mkPeer_ok x⟩, by omega, fun x _ => mkPort_ok x⟩
theorem mkRules_ok (l : List DRule) : (∀ r ∈ mkRules l, rulOk r = true) ∧ (mkRules l).length ≤ 2 := by
  refine ⟨fun r hr => ?_, by simp [mkRules]; omega⟩
  obtain ⟨x, _, rfl⟩ := List.mem_map.1 hr
  exact mkRule_ok x
/-- a peer as it lies in a row -/
structure XPeer where
  d : DPeer
  ea : Option Addr
  ec : Nat
def encXPeer (x : XPeer) : List Value := [.int .i64 x.d.kind, .int .i64 x.d.need, .int .i64 x.d.ban, .int .i64 x.d.spaces, .int .i64 x.d.base, .int .i64 x.d.bits, .slice x.ea x.d.exc.length x.ec]
structure XRule where
  d : DRule
  pa : Option Addr
  pc : Nat
  qa : Option Addr
  qc : Nat
def encXRule (x : XRule) : List Value := [.slice x.pa x.d.peers.length x.pc, .slice x.qa x.d.ports.length x.qc]
theorem encXRule_len (x : XRule) : (encXRule x).length = 2 := rfl
def encPort (x : DPort) : List Value := [.int .i64 x.proto, .int .i64 x.lo, .int .i64 x.hi]
theorem blk_cell {w : World} {b : Nat} {arr : Array Value} {t : TypeId} (h : w.heap[b]? = some (.cells arr t (0, 0))) (o : Nat) : w.cell? ⟨b, o, none⟩ = arr[o]? := by simp [World.cell?, h]
theorem blk_frozen {w : World} {b : Nat} {arr : Array Value} {t : TypeId} (h : w.heap[b]? = some (.cells arr t (0, 0))) (o : Nat) : w.frozen? ⟨b, o, none⟩ = false := by simp [World.frozen?, h]
theorem take_lt {α : Type} {l : List α} {k : Nat} (h : k < (l.take 2).length) : k < l.length ∧ k < 2 ∧ (l.take 2)[k]? = l[k]? := by
  rw [List.length_take] at h
  exact ⟨by omega, by omega, by rw [List.getElem?_take, if_pos (by omega)]⟩
theorem take_ge {α : Type} {l : List α} {k : Nat} (h : ¬ k < (l.take 2).length) : ¬ (k < l.length ∧ k < 2) := by
  rw [List.length_take] at h
  omega
theorem gb_below {W w1 w2 : World} {r : Option Nat} (h : W.grownBy w1 r) (hb : Below w1.heap.size w1 w2) : W.grownBy w2 r :=
  ⟨hb.os.trans h.os, hb.tape.trans h.tape, hb.output.trans h.output, Nat.le_trans h.size hb.size, fun k hk hne => (hb.block k (Nat.lt_of_lt_of_le hk h.size)).trans (h.block k hk hne)⟩
theorem gb_row {W w1 w2 : World} {r r2 : Option Nat} (h : W.grownBy w1 r) (k : w1.grownBy w2 r2) (hr : ∀ g, r2 = some g → W.heap.size ≤ g) : W.grownBy w2 r :=
  ⟨k.os.trans h.os, k.tape.trans h.tape, k.output.trans h.output, Nat.le_trans h.size k.size, fun b hb hne => (k.block b (Nat.lt_of_lt_of_le hb h.size) (fun e => by have := hr b e.symm; omega)).trans (h.block b hb hne)⟩
theorem gb_set {W w1 : World} {q : Nat} (h : W.grownBy w1 (some q)) (o : Nat) (u : Value) : W.grownBy (w1.setCell ⟨q, o, none⟩ u) (some q) := by
  have hb := (Below.refl q w1).setCell (p := ⟨q, o, none⟩) (Nat.le_refl _) u
  exact ⟨hb.os.trans h.os, hb.tape.trans h.tape, hb.output.trans h.output, Nat.le_trans h.size hb.size, fun b hb' hne => (Below.heap_setCell _ _ _ _ (fun e => hne (by rw [e]))).trans (h.block b hb' hne)⟩
theorem gb_low {W w1 : World} {q B : Nat} (h : W.grownBy w1 (some q)) (hq : B ≤ q) (hB : B ≤ W.heap.size) : Below B W w1 := (Below.refl B W).grown h hB (fun k hk => by cases hk; exact hq)
theorem gb_refl (W : World) (r : Option Nat) : W.grownBy W r := ⟨rfl, rfl, rfl, Nat.le_refl _, fun _ _ _ => rfl⟩
theorem set_blk {w : World} {g : Nat} {cs : Array Value} {t : TypeId} (h : w.heap[g]? = some (.cells cs t (0, 0))) (i : Nat) (v : Value) : (w.setCell ⟨g, i, none⟩ v).heap[g]? = some (.cells (cs.setIfInBounds i v) t (0, 0)) := heap_setCell_same w g i cs t v h
def NPeer (B : Nat) (w : World) (y : XPeer) : Prop := rdBlks B w y.ea y.d.exc
def NRule (B : Nat) (w : World) (x : XRule) : Prop := rdPeers B w x.pa x.d.peers ∧ rdPorts B w x.qa x.d.ports
def NNo {X : Type} (_ : Nat) (_ : World) (_ : X) : Prop := True
theorem NPeer.mono : Mono NPeer := fun _ _ _ _ _ hs hB h => rdBlks.sub hs hB h
theorem NRule.mono : Mono NRule := fun _ _ _ _ _ hs hB h => ⟨rdPeers.sub hs hB h.1, rdPorts.sub hs hB h.2⟩
theorem NNo.mono {X : Type} : Mono (NNo (X := X)) := fun _ _ _ _ _ _ _ _ => trivial
abbrev UpBlks := Up 47 2 encBlk NNo
abbrev UpPorts := Up 109 3 encPort NNo
abbrev UpPeers := Up 69 7 encXPeer NPeer
abbrev UpRules := Up 64 2 encXRule NRule
theorem upBlks_done {base : Nat} {w : World} {v : Value} {l : List DBlk} (h : UpBlks base w v l) (hl : l.length ≤ 1000000) : ∃ a c, v = .slice a l.length c ∧ l.length ≤ c ∧ rdBlks w.heap.size (hide w (low base)) a l := by
  have := Up.done (X := DBlk) (k := 2) (enc := encBlk) (N := NNo) (d := id) (E := eBlk) (bytes := 16) NNo.mono (fun _ => rfl) (by decide) h (by omega) (fun B w b o y _ hc => ⟨hc 0 _ rfl, hc 1 _ rfl⟩)
  simpa using this
theorem upPorts_done {base : Nat} {w : World} {v : Value} {l : List DPort} (h : UpPorts base w v l) (hl : l.length ≤ 1000000) : ∃ a c, v = .slice a l.length c ∧ l.length ≤ c ∧ rdPorts w.heap.size (hide w (low base)) a l := by
  have := Up.done (X := DPort) (k := 3) (enc := encPort) (N := NNo) (d := id) (E := ePort) (bytes := 24) NNo.mono (fun _ => rfl) (by decide) h (by omega) (fun B w b o y _ hc => ⟨hc 0 _ rfl, hc 1 _ rfl, hc 2 _ rfl⟩)
  simpa using this
theorem upPeers_done {base : Nat} {w : World} {v : Value} {l : List XPeer} (h : UpPeers base w v l) (hl : l.length ≤ 1000000) : ∃ a c, v = .slice a (l.map (·.d)).length c ∧ (l.map (·.d)).length ≤ c ∧ rdPeers w.heap.size (hide w (low base)) a (l.map (·.d)) :=
  Up.done (d := (·.d)) (E := ePeer) (bytes := 72) NPeer.mono (fun _ => rfl) (by decide) h (by omega) (fun B w b o y hn hc => ⟨hc 0 _ rfl, hc 1 _ rfl, hc 2 _ rfl, hc 3 _ rfl, hc 4 _ rfl, hc 5 _ rfl, y.ea, y.ec, hc 6 _ rfl, hn⟩)
theorem upRules_done {base : Nat} {w : World} {v : Value} {l : List XRule} (h : UpRules base w v l) (hl : l.length ≤ 1000000) : ∃ a c, v = .slice a (l.map (·.d)).length c ∧ (l.map (·.d)).length ≤ c ∧ rdRules w.heap.size (hide w (low base)) a (l.map (·.d)) :=
  Up.done (d := (·.d)) (E := eRule) (bytes := 48) NRule.mono (fun _ => rfl) (by decide) h (by omega) (fun B w b o y hn hc => ⟨⟨y.pa, y.pc, hc 0 _ rfl, hn.1⟩, y.qa, y.qc, hc 1 _ rfl, hn.2⟩)
theorem info_peer : (Tryz.prog.info? 69).map (fun i => (i.zero, i.size, i.bytes)) = some (some (.agg #[.int .i64 0, .int .i64 0, .int .i64 0, .int .i64 0, .int .i64 0, .int .i64 0, .slice none 0 0]), 7, 72) := by kernel_rfl
theorem info_rule : (Tryz.prog.info? 64).map (fun i => (i.zero, i.size, i.bytes)) = some (some (.agg #[.slice none 0 0, .slice none 0 0]), 2, 48) := by kernel_rfl
theorem info_port : (Tryz.prog.info? 109).map (fun i => (i.zero, i.size, i.bytes)) = some (some (.agg #[.int .i64 0, .int .i64 0, .int .i64 0]), 3, 24) := by kernel_rfl
theorem snoc_take {α β : Type} {l : List α} {j : Nat} {p : α} (f : α → β) (h : l[j]? = some p) : (l.take j).map f ++ [f p] = (l.take (j + 1)).map f := by rw [List.take_add_one, h, Option.toList_some, List.map_append]; rfl
theorem new_heap (w : World) (o : Obj) : (w.alloc o).heap[w.heap.size]? = some o := by show (w.heap.push _)[w.heap.size]? = _; simp
end Go.Proofs.YtmkjlhplgcifiaaGreat
