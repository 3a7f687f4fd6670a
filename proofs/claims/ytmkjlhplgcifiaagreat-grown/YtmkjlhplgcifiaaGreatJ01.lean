/-
  Plain data of a cluster, the document's answers over them, and what it means that a value of the program reads as such data in a world.
-/
import Derived.WalkKit
import Derived.ProofKit
import Derived.OpenShut
import Derived.WalkSpells
import Derived.BigQuiet
namespace Go.Proofs.YtmkjlhplgcifiaaGreat
open Go.ChangeShapes Go.WideShapes Go.ChangeAt Go.RowKit
set_option linter.unusedVariables false
structure DBlk where
  base : Int
  bits : Int
structure DPod where
  host : Int
  ip : Int
  space : Int
  labels : Int
structure DPeer where
  kind : Int
  need : Int
  ban : Int
  spaces : Int
  base : Int
  bits : Int
  exc : List DBlk
structure DPort where
  proto : Int
  lo : Int
  hi : Int
structure DRule where
  peers : List DPeer
  ports : List DPort
structure DPol where
  space : Int
  need : Int
  ban : Int
  ways : Int
  outs : List DRule
  ins : List DRule
structure DClu where
  pods : List DPod
  pols : List DPol
structure DPkt where
  src : Int
  dst : Int
  proto : Int
  port : Int
/-! ### the document's answers -/
def btw (n lo hi : Int) : Bool := decide (lo ≤ n) && decide (n ≤ hi)
/-- how many addresses a block has -/
def pw (bits : Int) : Int := (2 : Int) ^ (32 - bits).toNat
def blkOk (x : DBlk) : Bool := btw x.bits 0 32 && btw x.base 0 4294967295 && decide (x.base % pw x.bits = 0)
def blkHas (ip : Int) (x : DBlk) : Bool := decide (ip / pw x.bits = x.base / pw x.bits)
def selOk (need ban : Int) : Bool := btw need 0 255 && btw ban 0 255
def podOk (p : DPod) : Bool := btw p.host 0 3 && btw p.ip 0 4294967295 && btw p.space 0 3 && btw p.labels 0 255
def prtOk (p : DPort) : Bool := btw p.proto 0 2 && btw p.lo 0 65535 && btw p.hi 0 65535 && decide (p.lo ≤ p.hi)
def few {α : Type} (l : List α) (most : Int) (f : α → Bool) : Bool := decide ((l.length : Int) ≤ most) && l.all f
def peerOk (x : DPeer) : Bool :=
  if x.kind = 1 then selOk x.need x.ban && btw x.spaces 0 15 && decide (x.base = 0) && decide (x.bits = 0) && decide (x.exc.length = 0)
  else decide (x.kind = 2) && blkOk ⟨x.base, x.bits⟩ && decide (x.need = 0) && decide (x.ban = 0) && decide (x.spaces = 0) && few x.exc 2 blkOk
def rulOk (r : DRule) : Bool := few r.peers 2 peerOk && few r.ports 2 prtOk
def rulesOk (l : List DRule) (way : Bool) : Bool := few l 2 rulOk && (way || decide (l.length = 0))
def polOk (p : DPol) : Bool := btw p.space 0 3 && selOk p.need p.ban && btw p.ways 1 3 && rulesOk p.outs (decide (p.ways % 2 = 1)) && rulesOk p.ins (decide (p.ways / 2 = 1))
def podGood (l : List DPod) (i : Nat) : Bool := match l[i]? with | none => true | some p => podOk p && (l.take i).all fun q => decide (q.ip ≠ p.ip)
def polGood (l : List DPol) (i : Nat) : Bool := match l[i]? with | none => true | some p => polOk p
def firstBad (good : Nat → Bool) (n : Nat) : Option Nat := (List.range n).find? fun i => !good i
def right (c : DClu) : Int × Int :=
  if 8 < c.pods.length ∨ 4 < c.pols.length then (1, 0)
  else match firstBad (podGood c.pods) c.pods.length with
    | some i => (2, i)
    | none => match firstBad (polGood c.pols) c.pols.length with
      | some i => (3, i)
      | none => (0, 0)
def pktOk (k : DPkt) : Bool := btw k.src 0 4294967295 && btw k.dst 0 4294967295 && btw k.proto 1 2 && btw k.port 0 65535
def bitOk (need ban labels u : Int) : Bool := !((need / u % 2 == 1) && !(labels / u % 2 == 1)) && !((ban / u % 2 == 1) && (labels / u % 2 == 1))
def sels (need ban labels : Int) : Bool := (List.range 8).all fun i => bitOk need ban labels (2 ^ i)
def podAt (l : List DPod) (ip : Int) : Option DPod := l.find? fun p => decide (p.ip = ip)
def peerHas (pods : List DPod) (space ip : Int) (x : DPeer) : Bool :=
  if x.kind = 2 then blkHas ip ⟨x.base, x.bits⟩ && !(x.exc.any (blkHas ip))
  else match podAt pods ip with
    | none => false
    | some p => sels x.need x.ban p.labels && (if x.spaces = 0 then decide (p.space = space) else x.spaces / 2 ^ p.space.toNat % 2 == 1)
def prtFits (k : DPkt) (x : DPort) : Bool := (decide (x.proto = 0) || decide (x.proto = k.proto)) && btw k.port x.lo x.hi
def eoa {α : Type} (l : List α) (f : α → Bool) : Bool := decide (l.length = 0) || l.any f
def ruleFits (pods : List DPod) (space : Int) (k : DPkt) (far : Int) (r : DRule) : Bool := eoa r.peers (peerHas pods space far) && eoa r.ports (prtFits k)
def hasWay (ways way : Int) : Bool := if way = 1 then ways % 2 == 1 else ways / 2 == 1
def rulesOf (q : DPol) (way : Int) : List DRule := if way = 1 then q.outs else q.ins
def applies (way : Int) (p : DPod) (q : DPol) : Bool := hasWay q.ways way && decide (q.space = p.space) && sels q.need q.ban p.labels
def letsGo (pods : List DPod) (way : Int) (k : DPkt) (far : Int) (q : DPol) : Bool := (rulesOf q way).any (ruleFits pods q.space k far)
def may (c : DClu) (way : Int) (k : DPkt) (near far : Int) : Bool :=
  match podAt c.pods near with
  | none => true
  | some p => (c.pols.all fun q => !applies way p q) || c.pols.any fun q => applies way p q && letsGo c.pods way k far q
def allowed (c : DClu) (k : DPkt) : Bool × Int :=
  if (right c).1 ≠ 0 then (false, (right c).1) else if pktOk k = false then (false, 4) else (may c 1 k k.src k.dst && may c 2 k k.dst k.src, 0)
/-! ### how data lie in memory -/
/-- elements of a slice, from its first cell on: each one is 'E' -/
def RdSl {α : Type} (B : Nat) (w : World) (sz bytes : Nat) (E : Nat → World → Nat → Nat → α → Prop) (a : Option Addr) (l : List α) : Prop :=
  l.length * bytes ≤ 140737488351232 ∧ ∀ i x, l[i]? = some x → ∃ b off, a = some ⟨b, off, none⟩ ∧ b < B ∧ E B w b (off + i * sz) x
def eBlk (_B : Nat) (w : World) (b o : Nat) (x : DBlk) : Prop :=
  w.cell? ⟨b, o, none⟩ = some (.int .i64 x.base) ∧ w.cell? ⟨b, o + 1, none⟩ = some (.int .i64 x.bits)
def ePod (_B : Nat) (w : World) (b o : Nat) (x : DPod) : Prop :=
  w.cell? ⟨b, o, none⟩ = some (.int .i64 x.host) ∧ w.cell? ⟨b, o + 1, none⟩ = some (.int .i64 x.ip) ∧ w.cell? ⟨b, o + 2, none⟩ = some (.int .i64 x.space) ∧ w.cell? ⟨b, o + 3, none⟩ = some (.int .i64 x.labels)
def ePort (_B : Nat) (w : World) (b o : Nat) (x : DPort) : Prop :=
  w.cell? ⟨b, o, none⟩ = some (.int .i64 x.proto) ∧ w.cell? ⟨b, o + 1, none⟩ = some (.int .i64 x.lo) ∧ w.cell? ⟨b, o + 2, none⟩ = some (.int .i64 x.hi)
abbrev rdBlks (B : Nat) (w : World) (a : Option Addr) (l : List DBlk) : Prop := RdSl B w 2 16 eBlk a l
abbrev rdPods (B : Nat) (w : World) (a : Option Addr) (l : List DPod) : Prop := RdSl B w 4 32 ePod a l
abbrev rdPorts (B : Nat) (w : World) (a : Option Addr) (l : List DPort) : Prop := RdSl B w 3 24 ePort a l
def ePeer (B : Nat) (w : World) (b o : Nat) (x : DPeer) : Prop :=
  w.cell? ⟨b, o, none⟩ = some (.int .i64 x.kind) ∧ w.cell? ⟨b, o + 1, none⟩ = some (.int .i64 x.need) ∧ w.cell? ⟨b, o + 2, none⟩ = some (.int .i64 x.ban) ∧ w.cell? ⟨b, o + 3, none⟩ = some (.int .i64 x.spaces) ∧
  w.cell? ⟨b, o + 4, none⟩ = some (.int .i64 x.base) ∧ w.cell? ⟨b, o + 5, none⟩ = some (.int .i64 x.bits) ∧
  ∃ a c, w.cell? ⟨b, o + 6, none⟩ = some (.slice a x.exc.length c) ∧ rdBlks B w a x.exc
abbrev rdPeers (B : Nat) (w : World) (a : Option Addr) (l : List DPeer) : Prop := RdSl B w 7 72 ePeer a l
def eRule (B : Nat) (w : World) (b o : Nat) (x : DRule) : Prop :=
  (∃ a c, w.cell? ⟨b, o, none⟩ = some (.slice a x.peers.length c) ∧ rdPeers B w a x.peers) ∧ ∃ a c, w.cell? ⟨b, o + 1, none⟩ = some (.slice a x.ports.length c) ∧ rdPorts B w a x.ports
abbrev rdRules (B : Nat) (w : World) (a : Option Addr) (l : List DRule) : Prop := RdSl B w 2 48 eRule a l
def ePol (B : Nat) (w : World) (b o : Nat) (x : DPol) : Prop :=
  w.cell? ⟨b, o, none⟩ = some (.int .i64 x.space) ∧ w.cell? ⟨b, o + 1, none⟩ = some (.int .i64 x.need) ∧ w.cell? ⟨b, o + 2, none⟩ = some (.int .i64 x.ban) ∧ w.cell? ⟨b, o + 3, none⟩ = some (.int .i64 x.ways) ∧
  (∃ a c, w.cell? ⟨b, o + 4, none⟩ = some (.slice a x.outs.length c) ∧ rdRules B w a x.outs) ∧ ∃ a c, w.cell? ⟨b, o + 5, none⟩ = some (.slice a x.ins.length c) ∧ rdRules B w a x.ins
abbrev rdPols (B : Nat) (w : World) (a : Option Addr) (l : List DPol) : Prop := RdSl B w 6 80 ePol a l
theorem RdSl.ext {α : Type} {B B' sz bytes : Nat} {w w' : World} {E : Nat → World → Nat → Nat → α → Prop} {a : Option Addr} {l : List α}
    (h : RdSl B w sz bytes E a l) (hB : B ≤ B') (hE : ∀ b o x, b < B → E B w b o x → E B' w' b o x) : RdSl B' w' sz bytes E a l :=
  ⟨h.1, fun i x hx => let ⟨b, off, e, hb, he⟩ := h.2 i x hx; ⟨b, off, e, by omega, hE _ _ _ hb he⟩⟩
theorem eBlk.ext {B : Nat} {w w' : World} (B' : Nat) (hw : Below B w w') {b o : Nat} {x : DBlk} (hb : b < B) (h : eBlk B w b o x) : eBlk B' w' b o x := by
  unfold eBlk at *; simp only [hw.cell (p := ⟨b, _, none⟩) hb]; exact h
theorem ePod.ext {B : Nat} {w w' : World} (B' : Nat) (hw : Below B w w') {b o : Nat} {x : DPod} (hb : b < B) (h : ePod B w b o x) : ePod B' w' b o x := by
  unfold ePod at *; simp only [hw.cell (p := ⟨b, _, none⟩) hb]; exact h
theorem ePort.ext {B : Nat} {w w' : World} (B' : Nat) (hw : Below B w w') {b o : Nat} {x : DPort} (hb : b < B) (h : ePort B w b o x) : ePort B' w' b o x := by
  unfold ePort at *; simp only [hw.cell (p := ⟨b, _, none⟩) hb]; exact h
theorem rdBlks.ext {B B' : Nat} {w w' : World} (hw : Below B w w') (hB : B ≤ B') {a : Option Addr} {l : List DBlk} (h : rdBlks B w a l) : rdBlks B' w' a l := RdSl.ext h hB fun _ _ _ hb => eBlk.ext _ hw hb
theorem rdPods.ext {B B' : Nat} {w w' : World} (hw : Below B w w') (hB : B ≤ B') {a : Option Addr} {l : List DPod} (h : rdPods B w a l) : rdPods B' w' a l := RdSl.ext h hB fun _ _ _ hb => ePod.ext _ hw hb
theorem rdPorts.ext {B B' : Nat} {w w' : World} (hw : Below B w w') (hB : B ≤ B') {a : Option Addr} {l : List DPort} (h : rdPorts B w a l) : rdPorts B' w' a l := RdSl.ext h hB fun _ _ _ hb => ePort.ext _ hw hb
theorem ePeer.ext {B B' : Nat} {w w' : World} (hw : Below B w w') (hB : B ≤ B') {b o : Nat} {x : DPeer} (hb : b < B) (h : ePeer B w b o x) : ePeer B' w' b o x := by
  unfold ePeer at *; simp only [hw.cell (p := ⟨b, _, none⟩) hb]
  obtain ⟨h0, h1, h2, h3, h4, h5, a, c, h6, h7⟩ := h
  exact ⟨h0, h1, h2, h3, h4, h5, a, c, h6, rdBlks.ext hw hB h7⟩
theorem rdPeers.ext {B B' : Nat} {w w' : World} (hw : Below B w w') (hB : B ≤ B') {a : Option Addr} {l : List DPeer} (h : rdPeers B w a l) : rdPeers B' w' a l := RdSl.ext h hB fun _ _ _ hb => ePeer.ext hw hB hb
theorem eRule.ext {B B' : Nat} {w w' : World} (hw : Below B w w') (hB : B ≤ B') {b o : Nat} {x : DRule} (hb : b < B) (h : eRule B w b o x) : eRule B' w' b o x := by
  unfold eRule at *; simp only [hw.cell (p := ⟨b, _, none⟩) hb]
  obtain ⟨⟨a, c, h0, h1⟩, a', c', h2, h3⟩ := h
  exact ⟨⟨a, c, h0, rdPeers.ext hw hB h1⟩, a', c', h2, rdPorts.ext hw hB h3⟩
theorem rdRules.ext {B B' : Nat} {w w' : World} (hw : Below B w w') (hB : B ≤ B') {a : Option Addr} {l : List DRule} (h : rdRules B w a l) : rdRules B' w' a l := RdSl.ext h hB fun _ _ _ hb => eRule.ext hw hB hb
theorem ePol.ext {B B' : Nat} {w w' : World} (hw : Below B w w') (hB : B ≤ B') {b o : Nat} {x : DPol} (hb : b < B) (h : ePol B w b o x) : ePol B' w' b o x := by
  unfold ePol at *; simp only [hw.cell (p := ⟨b, _, none⟩) hb]
  obtain ⟨h0, h1, h2, h3, ⟨a, c, h4, h5⟩, a', c', h6, h7⟩ := h
  exact ⟨h0, h1, h2, h3, ⟨a, c, h4, rdRules.ext hw hB h5⟩, a', c', h6, rdRules.ext hw hB h7⟩
theorem rdPols.ext {B B' : Nat} {w w' : World} (hw : Below B w w') (hB : B ≤ B') {a : Option Addr} {l : List DPol} (h : rdPols B w a l) : rdPols B' w' a l := RdSl.ext h hB fun _ _ _ hb => ePol.ext hw hB hb
theorem Ext.trans {a b c : World} (h : Below a.heap.size a b) (k : Below b.heap.size b c) : Below a.heap.size a c := h.trans (k.mono h.size)
theorem Ext.alloc {a w : World} (h : Below a.heap.size a w) (o : Obj) : Below a.heap.size a (w.alloc o) := h.alloc h.size o
theorem Ext.drew {a w : World} (h : Below a.heap.size a w) : Below a.heap.size a w.drew := h.drew
theorem Ext.drewN {a w : World} (h : Below a.heap.size a w) (n : Nat) : Below a.heap.size a (w.drewN n) := ⟨h.os, h.tape, h.output, h.size, h.block⟩
theorem bcell {W w1 : World} (hb : Below W.heap.size W w1) : (∀ b o, b < W.heap.size → w1.cell? ⟨b, o, none⟩ = W.cell? ⟨b, o, none⟩) ∧ (∀ b o, b < W.heap.size → w1.frozen? ⟨b, o, none⟩ = W.frozen? ⟨b, o, none⟩) :=
  ⟨fun b o h => hb.cell (p := ⟨b, o, none⟩) h, fun b o h => hb.frozen (p := ⟨b, o, none⟩) h⟩
theorem hb_lt {B : Nat} {X w1 : World} (h : Below B X w1) : ∀ i, i < X.heap.size → i < w1.heap.size := fun _ hi => Nat.lt_of_lt_of_le hi h.size
theorem ibeq (a b : Int) : (a == b) = decide (a = b) := by by_cases h : a = b <;> simp [h]
theorem hid {p : Prop} (h : p) : Hid p := h
theorem ret_bool {a b : Bool} (h : a = b) : Ending.returned (.bool a) = .returned (.bool b) := by rw [h]
end Go.Proofs.YtmkjlhplgcifiaaGreat
