/-
  Plain data of a cluster, the document's answers over them, and what it means that a value of the program reads as such data in a world.
  A region that draws its order, whose last operations wait for all of the others: the first ones in whatever order (each only reads, or calls what only makes new memory), then the last ones one by one.
  Rows are compared: row.compare orders them by what they say (all but Allow), and makes new memory alone.
-/
import Derived.WalkKit
import Derived.ProofKit
import Derived.OpenShut
import Derived.WalkSpells
import Derived.BigQuiet
import Derived.Deep.Quiet
import Derived.Test.YtmkjlhplgcifiaaGreatRows
import Derived.Shelf.SlSortCmp.InsertionK
namespace Go.Proofs.YtmkjlhplgcifiaaGreat
open Go.ChangeShapes Go.WideShapes Go.ChangeAt Go.RowKit
set_option linter.unusedVariables false

structure DBlk where
  base : Int
  bits : Int
structure DPod where
  host : Int
  ip : Int
  space : Int
  labels : Int
structure DPeer where
  kind : Int
  need : Int
  ban : Int
  spaces : Int
  base : Int
  bits : Int
  exc : List DBlk
structure DPort where
  proto : Int
  lo : Int
  hi : Int
structure DRule where
  peers : List DPeer
  ports : List DPort
structure DPol where
  space : Int
  need : Int
  ban : Int
  ways : Int
  outs : List DRule
  ins : List DRule
structure DClu where
  pods : List DPod
  pols : List DPol
structure DPkt where
  src : Int
  dst : Int
  proto : Int
  port : Int

/-! ### the document's answers -/
def btw (n lo hi : Int) : Bool := decide (lo ≤ n) && decide (n ≤ hi)
/-- how many addresses a block has -/
def pw (bits : Int) : Int := (2 : Int) ^ (32 - bits).toNat
def blkOk (x : DBlk) : Bool := btw x.bits 0 32 && btw x.base 0 4294967295 && decide (x.base % pw x.bits = 0)
def blkHas (ip : Int) (x : DBlk) : Bool := decide (ip / pw x.bits = x.base / pw x.bits)
def selOk (need ban : Int) : Bool := btw need 0 255 && btw ban 0 255
def podOk (p : DPod) : Bool := btw p.host 0 3 && btw p.ip 0 4294967295 && btw p.space 0 3 && btw p.labels 0 255
def prtOk (p : DPort) : Bool := btw p.proto 0 2 && btw p.lo 0 65535 && btw p.hi 0 65535 && decide (p.lo ≤ p.hi)
def few {α : Type} (l : List α) (most : Int) (f : α → Bool) : Bool := decide ((l.length : Int) ≤ most) && l.all f
def peerOk (x : DPeer) : Bool :=
  if x.kind = 1 then selOk x.need x.ban && btw x.spaces 0 15 && decide (x.base = 0) && decide (x.bits = 0) && decide (x.exc.length = 0)
  else decide (x.kind = 2) && blkOk ⟨x.base, x.bits⟩ && decide (x.need = 0) && decide (x.ban = 0) && decide (x.spaces = 0) && few x.exc 2 blkOk
def rulOk (r : DRule) : Bool := few r.peers 2 peerOk && few r.ports 2 prtOk
def rulesOk (l : List DRule) (way : Bool) : Bool := few l 2 rulOk && (way || decide (l.length = 0))
def polOk (p : DPol) : Bool := btw p.space 0 3 && selOk p.need p.ban && btw p.ways 1 3 && rulesOk p.outs (decide (p.ways % 2 = 1)) && rulesOk p.ins (decide (p.ways / 2 = 1))
def podGood (l : List DPod) (i : Nat) : Bool := match l[i]? with | none => true | some p => podOk p && (l.take i).all fun q => decide (q.ip ≠ p.ip)
def polGood (l : List DPol) (i : Nat) : Bool := match l[i]? with | none => true | some p => polOk p
def firstBad (good : Nat → Bool) (n : Nat) : Option Nat := (List.range n).find? fun i => !good i
def right (c : DClu) : Int × Int :=
  if 8 < c.pods.length ∨ 4 < c.pols.length then (1, 0)
  else match firstBad (podGood c.pods) c.pods.length with
    | some i => (2, i)
    | none => match firstBad (polGood c.pols) c.pols.length with
      | some i => (3, i)
      | none => (0, 0)
def pktOk (k : DPkt) : Bool := btw k.src 0 4294967295 && btw k.dst 0 4294967295 && btw k.proto 1 2 && btw k.port 0 65535
def bitOk (need ban labels u : Int) : Bool := !((need / u % 2 == 1) && !(labels / u % 2 == 1)) && !((ban / u % 2 == 1) && (labels / u % 2 == 1))
def sels (need ban labels : Int) : Bool := (List.range 8).all fun i => bitOk need ban labels (2 ^ i)
def podAt (l : List DPod) (ip : Int) : Option DPod := l.find? fun p => decide (p.ip = ip)
def peerHas (pods : List DPod) (space ip : Int) (x : DPeer) : Bool :=
  if x.kind = 2 then blkHas ip ⟨x.base, x.bits⟩ && !(x.exc.any (blkHas ip))
  else match podAt pods ip with
    | none => false
    | some p => sels x.need x.ban p.labels && (if x.spaces = 0 then decide (p.space = space) else x.spaces / 2 ^ p.space.toNat % 2 == 1)
def prtFits (k : DPkt) (x : DPort) : Bool := (decide (x.proto = 0) || decide (x.proto = k.proto)) && btw k.port x.lo x.hi
def eoa {α : Type} (l : List α) (f : α → Bool) : Bool := decide (l.length = 0) || l.any f
def ruleFits (pods : List DPod) (space : Int) (k : DPkt) (far : Int) (r : DRule) : Bool := eoa r.peers (peerHas pods space far) && eoa r.ports (prtFits k)
def hasWay (ways way : Int) : Bool := if way = 1 then ways % 2 == 1 else ways / 2 == 1
def rulesOf (q : DPol) (way : Int) : List DRule := if way = 1 then q.outs else q.ins
def applies (way : Int) (p : DPod) (q : DPol) : Bool := hasWay q.ways way && decide (q.space = p.space) && sels q.need q.ban p.labels
def letsGo (pods : List DPod) (way : Int) (k : DPkt) (far : Int) (q : DPol) : Bool := (rulesOf q way).any (ruleFits pods q.space k far)
def may (c : DClu) (way : Int) (k : DPkt) (near far : Int) : Bool :=
  match podAt c.pods near with
  | none => true
  | some p => (c.pols.all fun q => !applies way p q) || c.pols.any fun q => applies way p q && letsGo c.pods way k far q
def allowed (c : DClu) (k : DPkt) : Bool × Int :=
  if (right c).1 ≠ 0 then (false, (right c).1) else if pktOk k = false then (false, 4) else (may c 1 k k.src k.dst && may c 2 k k.dst k.src, 0)

/-! ### how data lie in memory -/
/-- elements of a slice, from its first cell on: each one is 'E' -/
def RdSl {α : Type} (B : Nat) (w : World) (sz bytes : Nat) (E : Nat → World → Nat → Nat → α → Prop) (a : Option Addr) (l : List α) : Prop :=
  l.length * bytes ≤ 140737488351232 ∧ ∀ i x, l[i]? = some x → ∃ b off, a = some ⟨b, off, none⟩ ∧ b < B ∧ E B w b (off + i * sz) x

def eBlk (_B : Nat) (w : World) (b o : Nat) (x : DBlk) : Prop :=
  w.cell? ⟨b, o, none⟩ = some (.int .i64 x.base) ∧ w.cell? ⟨b, o + 1, none⟩ = some (.int .i64 x.bits)
def ePod (_B : Nat) (w : World) (b o : Nat) (x : DPod) : Prop :=
  w.cell? ⟨b, o, none⟩ = some (.int .i64 x.host) ∧ w.cell? ⟨b, o + 1, none⟩ = some (.int .i64 x.ip) ∧ w.cell? ⟨b, o + 2, none⟩ = some (.int .i64 x.space) ∧ w.cell? ⟨b, o + 3, none⟩ = some (.int .i64 x.labels)
def ePort (_B : Nat) (w : World) (b o : Nat) (x : DPort) : Prop :=
  w.cell? ⟨b, o, none⟩ = some (.int .i64 x.proto) ∧ w.cell? ⟨b, o + 1, none⟩ = some (.int .i64 x.lo) ∧ w.cell? ⟨b, o + 2, none⟩ = some (.int .i64 x.hi)
abbrev rdBlks (B : Nat) (w : World) (a : Option Addr) (l : List DBlk) : Prop := RdSl B w 2 16 eBlk a l
abbrev rdPods (B : Nat) (w : World) (a : Option Addr) (l : List DPod) : Prop := RdSl B w 4 32 ePod a l
abbrev rdPorts (B : Nat) (w : World) (a : Option Addr) (l : List DPort) : Prop := RdSl B w 3 24 ePort a l
def ePeer (B : Nat) (w : World) (b o : Nat) (x : DPeer) : Prop :=
  w.cell? ⟨b, o, none⟩ = some (.int .i64 x.kind) ∧ w.cell? ⟨b, o + 1, none⟩ = some (.int .i64 x.need) ∧ w.cell? ⟨b, o + 2, none⟩ = some (.int .i64 x.ban) ∧ w.cell? ⟨b, o + 3, none⟩ = some (.int .i64 x.spaces) ∧
  w.cell? ⟨b, o + 4, none⟩ = some (.int .i64 x.base) ∧ w.cell? ⟨b, o + 5, none⟩ = some (.int .i64 x.bits) ∧
  ∃ a c, w.cell? ⟨b, o + 6, none⟩ = some (.slice a x.exc.length c) ∧ rdBlks B w a x.exc
abbrev rdPeers (B : Nat) (w : World) (a : Option Addr) (l : List DPeer) : Prop := RdSl B w 7 72 ePeer a l
def eRule (B : Nat) (w : World) (b o : Nat) (x : DRule) : Prop :=
  (∃ a c, w.cell? ⟨b, o, none⟩ = some (.slice a x.peers.length c) ∧ rdPeers B w a x.peers) ∧ ∃ a c, w.cell? ⟨b, o + 1, none⟩ = some (.slice a x.ports.length c) ∧ rdPorts B w a x.ports
abbrev rdRules (B : Nat) (w : World) (a : Option Addr) (l : List DRule) : Prop := RdSl B w 2 48 eRule a l
def ePol (B : Nat) (w : World) (b o : Nat) (x : DPol) : Prop :=
  w.cell? ⟨b, o, none⟩ = some (.int .i64 x.space) ∧ w.cell? ⟨b, o + 1, none⟩ = some (.int .i64 x.need) ∧ w.cell? ⟨b, o + 2, none⟩ = some (.int .i64 x.ban) ∧ w.cell? ⟨b, o + 3, none⟩ = some (.int .i64 x.ways) ∧
  (∃ a c, w.cell? ⟨b, o + 4, none⟩ = some (.slice a x.outs.length c) ∧ rdRules B w a x.outs) ∧ ∃ a c, w.cell? ⟨b, o + 5, none⟩ = some (.slice a x.ins.length c) ∧ rdRules B w a x.ins
abbrev rdPols (B : Nat) (w : World) (a : Option Addr) (l : List DPol) : Prop := RdSl B w 6 80 ePol a l

theorem RdSl.ext {α : Type} {B B' sz bytes : Nat} {w w' : World} {E : Nat → World → Nat → Nat → α → Prop} {a : Option Addr} {l : List α}
    (h : RdSl B w sz bytes E a l) (hB : B ≤ B') (hE : ∀ b o x, b < B → E B w b o x → E B' w' b o x) : RdSl B' w' sz bytes E a l :=
  ⟨h.1, fun i x hx => let ⟨b, off, e, hb, he⟩ := h.2 i x hx; ⟨b, off, e, by omega, hE _ _ _ hb he⟩⟩

theorem eBlk.ext {B : Nat} {w w' : World} (B' : Nat) (hw : Below B w w') {b o : Nat} {x : DBlk} (hb : b < B) (h : eBlk B w b o x) : eBlk B' w' b o x := by
  unfold eBlk at *; simp only [hw.cell (p := ⟨b, _, none⟩) hb]; exact h
theorem ePod.ext {B : Nat} {w w' : World} (B' : Nat) (hw : Below B w w') {b o : Nat} {x : DPod} (hb : b < B) (h : ePod B w b o x) : ePod B' w' b o x := by
  unfold ePod at *; simp only [hw.cell (p := ⟨b, _, none⟩) hb]; exact h
theorem ePort.ext {B : Nat} {w w' : World} (B' : Nat) (hw : Below B w w') {b o : Nat} {x : DPort} (hb : b < B) (h : ePort B w b o x) : ePort B' w' b o x := by
  unfold ePort at *; simp only [hw.cell (p := ⟨b, _, none⟩) hb]; exact h
theorem rdBlks.ext {B B' : Nat} {w w' : World} (hw : Below B w w') (hB : B ≤ B') {a : Option Addr} {l : List DBlk} (h : rdBlks B w a l) : rdBlks B' w' a l := RdSl.ext h hB fun _ _ _ hb => eBlk.ext _ hw hb
theorem rdPods.ext {B B' : Nat} {w w' : World} (hw : Below B w w') (hB : B ≤ B') {a : Option Addr} {l : List DPod} (h : rdPods B w a l) : rdPods B' w' a l := RdSl.ext h hB fun _ _ _ hb => ePod.ext _ hw hb
theorem rdPorts.ext {B B' : Nat} {w w' : World} (hw : Below B w w') (hB : B ≤ B') {a : Option Addr} {l : List DPort} (h : rdPorts B w a l) : rdPorts B' w' a l := RdSl.ext h hB fun _ _ _ hb => ePort.ext _ hw hb
theorem ePeer.ext {B B' : Nat} {w w' : World} (hw : Below B w w') (hB : B ≤ B') {b o : Nat} {x : DPeer} (hb : b < B) (h : ePeer B w b o x) : ePeer B' w' b o x := by
  unfold ePeer at *; simp only [hw.cell (p := ⟨b, _, none⟩) hb]
  obtain ⟨h0, h1, h2, h3, h4, h5, a, c, h6, h7⟩ := h
  exact ⟨h0, h1, h2, h3, h4, h5, a, c, h6, rdBlks.ext hw hB h7⟩
theorem rdPeers.ext {B B' : Nat} {w w' : World} (hw : Below B w w') (hB : B ≤ B') {a : Option Addr} {l : List DPeer} (h : rdPeers B w a l) : rdPeers B' w' a l := RdSl.ext h hB fun _ _ _ hb => ePeer.ext hw hB hb
theorem eRule.ext {B B' : Nat} {w w' : World} (hw : Below B w w') (hB : B ≤ B') {b o : Nat} {x : DRule} (hb : b < B) (h : eRule B w b o x) : eRule B' w' b o x := by
  unfold eRule at *; simp only [hw.cell (p := ⟨b, _, none⟩) hb]
  obtain ⟨⟨a, c, h0, h1⟩, a', c', h2, h3⟩ := h
  exact ⟨⟨a, c, h0, rdPeers.ext hw hB h1⟩, a', c', h2, rdPorts.ext hw hB h3⟩
theorem rdRules.ext {B B' : Nat} {w w' : World} (hw : Below B w w') (hB : B ≤ B') {a : Option Addr} {l : List DRule} (h : rdRules B w a l) : rdRules B' w' a l := RdSl.ext h hB fun _ _ _ hb => eRule.ext hw hB hb
theorem ePol.ext {B B' : Nat} {w w' : World} (hw : Below B w w') (hB : B ≤ B') {b o : Nat} {x : DPol} (hb : b < B) (h : ePol B w b o x) : ePol B' w' b o x := by
  unfold ePol at *; simp only [hw.cell (p := ⟨b, _, none⟩) hb]
  obtain ⟨h0, h1, h2, h3, ⟨a, c, h4, h5⟩, a', c', h6, h7⟩ := h
  exact ⟨h0, h1, h2, h3, ⟨a, c, h4, rdRules.ext hw hB h5⟩, a', c', h6, rdRules.ext hw hB h7⟩
theorem rdPols.ext {B B' : Nat} {w w' : World} (hw : Below B w w') (hB : B ≤ B') {a : Option Addr} {l : List DPol} (h : rdPols B w a l) : rdPols B' w' a l := RdSl.ext h hB fun _ _ _ hb => ePol.ext hw hB hb

theorem Ext.trans {a b c : World} (h : Below a.heap.size a b) (k : Below b.heap.size b c) : Below a.heap.size a c := h.trans (k.mono h.size)
theorem Ext.alloc {a w : World} (h : Below a.heap.size a w) (o : Obj) : Below a.heap.size a (w.alloc o) := h.alloc h.size o
theorem Ext.drew {a w : World} (h : Below a.heap.size a w) : Below a.heap.size a w.drew := h.drew
theorem Ext.drewN {a w : World} (h : Below a.heap.size a w) (n : Nat) : Below a.heap.size a (w.drewN n) := ⟨h.os, h.tape, h.output, h.size, h.block⟩
theorem bcell {W w1 : World} (hb : Below W.heap.size W w1) : (∀ b o, b < W.heap.size → w1.cell? ⟨b, o, none⟩ = W.cell? ⟨b, o, none⟩) ∧ (∀ b o, b < W.heap.size → w1.frozen? ⟨b, o, none⟩ = W.frozen? ⟨b, o, none⟩) :=
  ⟨fun b o h => hb.cell (p := ⟨b, o, none⟩) h, fun b o h => hb.frozen (p := ⟨b, o, none⟩) h⟩
theorem hb_lt {B : Nat} {X w1 : World} (h : Below B X w1) : ∀ i, i < X.heap.size → i < w1.heap.size := fun _ hi => Nat.lt_of_lt_of_le hi h.size
theorem ibeq (a b : Int) : (a == b) = decide (a = b) := by by_cases h : a = b <;> simp [h]
theorem hid {p : Prop} (h : p) : Hid p := h
theorem ret_bool {a b : Bool} (h : a = b) : Ending.returned (.bool a) = .returned (.bool b) := by rw [h]

end Go.Proofs.YtmkjlhplgcifiaaGreat
namespace Go
section
variable {P : Program} {ops : Array Oper} {md : Region.Mode} {C : World → Prop}

theorem wpAny_more {Q : Exit → Act → World → Prop} : ∀ (fuel : Nat) (listed : Array Bool) (a : Act) (w : World), wpAny P md ops Q fuel listed a w → wpAny P md ops Q (fuel + 1) listed a w
  | 0, _, _, _, h => ⟨fun _ => h.2, fun i hi => by rw [h.1] at hi; cases hi⟩
  | fuel + 1, _, _, _, h => ⟨h.1, fun i hi => wpOp_mono (fun a w => wpAny_more fuel _ a w) (h.2 i hi)⟩
theorem wpAny_mores {Q : Exit → Act → World → Prop} (k fuel : Nat) (listed : Array Bool) (a : Act) (w : World) (h : wpAny P md ops Q fuel listed a w) : wpAny P md ops Q (k + fuel) listed a w := by
  induction k with
  | zero => rw [Nat.zero_add]; exact h
  | succ k ih => rw [Nat.succ_add]; exact wpAny_more _ _ _ _ ih

/-- the places of the first n are as they are in l1, no other one has come up -/
structure TailRel (n N : Nat) (l1 L : Array Bool) : Prop where
  s1 : l1.size = n
  s2 : L.size = N
  lo : ∀ k, k < n → L[k]? = l1[k]?
  hi : ∀ k, n ≤ k → k < N → L[k]? = some false

def onTo (md : Region.Mode) (ops : Array Oper) (j k : Nat) : Bool := ((ops[j]?).map fun o => o.after.any fun e => Region.binds md e && e.on == k).getD false
def tailB (md : Region.Mode) (ops : Array Oper) (n : Nat) : Bool :=
  ((List.range n).all fun k => ((ops[k]?).map fun o => o.guard.isNone && o.after.all fun e => !Region.binds md e || decide (e.on < k)).getD false) &&
  ((List.range n).all fun k => (List.range (n + 1)).any fun j => decide (k < j) && onTo md ops j k) &&
  ((List.range ops.size).all fun j => decide (j ≤ n) || onTo md ops j (j - 1)) && decide (n ≤ ops.size)
def seqB (md : Region.Mode) (ops : Array Oper) : Nat → Nat → Array Bool → Bool
  | 0, _, listed => Region.ready md ops listed == []
  | fuel + 1, k, listed => Region.ready md ops listed == [k] && seqB md ops fuel (k + 1) (listed.setIfInBounds k true)

theorem wpAny_seq {Q : Exit → Act → World → Prop} : ∀ (l : List Oper) (k : Nat) (listed : Array Bool) (a : Act) (w : World), (∀ j, l[j]? = ops[k + j]?) → seqB md ops l.length k listed = true → wpList P ops Q l a w → wpAny P md ops Q l.length listed a w
  | [], _, _, _, _, _, hB, h => ⟨by simpa [seqB] using hB, h⟩
  | o :: l, k, listed, a, w, hl, hB, h => by
    have h0 : ops[k]? = some o := by simpa using (hl 0).symm
    simp only [List.length_cons, seqB, Bool.and_eq_true, beq_iff_eq] at hB
    refine ⟨fun h' => (by rw [hB.1] at h'; cases h'), fun i hi => ?_⟩
    rw [hB.1, List.mem_singleton] at hi
    subst hi
    have ih := wpAny_seq (Q := Q) l (i + 1) (listed.setIfInBounds i true) 
    have hl' : ∀ j, l[j]? = ops[i + 1 + j]? := fun j => by have := hl (j + 1); simpa [Nat.add_assoc, Nat.add_comm 1 j] using this
    unfold wpOp
    simp only [h0]
    unfold wpList at h
    split
    · rename_i hw
      simp only [hw, if_true] at h
      exact h.elim (fun h => .inl (Oper.wp_mono (fun a w => ih a w hl' hB.2) h)) .inr
    · rename_i hw
      simp only [hw] at h
      exact ih _ _ hl' hB.2 h

theorem getD_of_some {L : Array Bool} {k : Nat} {b : Bool} (h : L[k]? = some b) (d : Bool) : L.getD k d = b := by simp [h]
theorem some_of_getD {L : Array Bool} {k : Nat} (h : L.getD k false = true) : L[k]? = some true := by
  rw [Array.getD_eq_getD_getElem?] at h
  cases hk : L[k]? with
  | none => rw [hk] at h; cases h
  | some b => rw [hk] at h; simp at h; rw [h]
theorem false_of_getD {L : Array Bool} {k : Nat} (h : L.getD k true = false) : L[k]? = some false := by
  rw [Array.getD_eq_getD_getElem?] at h
  cases hk : L[k]? with
  | none => rw [hk] at h; cases h
  | some b => rw [hk] at h; simp at h; rw [h]

theorem onTo_spec {j k : Nat} (h : onTo md ops j k = true) : ∃ o, ops[j]? = some o ∧ ∃ e ∈ o.after, Region.binds md e = true ∧ e.on = k := by
  unfold onTo at h
  cases ho : ops[j]? with
  | none => rw [ho] at h; cases h
  | some o =>
    rw [ho] at h
    simp only [Option.map_some, Option.getD_some, Array.any_eq_true', Bool.and_eq_true, beq_iff_eq] at h
    obtain ⟨e, he, hb, hk⟩ := h
    exact ⟨o, rfl, e, he, hb, hk⟩

theorem wpAny_of_first {Q1 : Act → Prop} {Q' : Exit → Act → World → Prop} {n m : Nat} (hT : tailB md ops n = true) (Lt : Array Bool) (hLt : TailRel n ops.size (Array.replicate n true) Lt)
    (htail : ∀ a w, C w → Q1 a → wpAny P md ops Q' m Lt a w) :
    ∀ (fuel : Nat) (l1 L : Array Bool) (a : Act) (w : World), TailRel n ops.size l1 L → (∀ k o, k < n → ops[k]? = some o → l1[k]? = some true → ∀ e ∈ o.after, Region.binds md e = true → l1[e.on]? = some true) → C w →
      wpAnyQ P md (ops.extract 0 n) C Q1 fuel l1 a → wpAny P md ops Q' (fuel + m) L a w := by
  simp only [tailB, Bool.and_eq_true, List.all_eq_true, List.mem_range, List.any_eq_true, decide_eq_true_eq, Bool.or_eq_true] at hT
  obtain ⟨⟨⟨h1, h2⟩, h3⟩, h4⟩ := hT
  have hx : ∀ k, k < n → (ops.extract 0 n)[k]? = ops[k]? := fun k hk => by
    rw [Array.getElem?_extract]; simp; omega
  have hback : ∀ k o, k < n → ops[k]? = some o → o.guard = none ∧ ∀ e ∈ o.after, Region.binds md e = true → e.on < k := fun k o hk ho => by
    have := h1 k hk
    simp only [ho, Option.map_some, Option.getD_some, Bool.and_eq_true, Option.isNone_iff_eq_none, Array.all_eq_true_iff_forall_mem, Bool.or_eq_true, decide_eq_true_eq] at this
    exact ⟨this.1, fun e he hb => (this.2 e he).resolve_left (by simp [hb])⟩
  -- none is ready: all have come up
  have hdone : ∀ l1 : Array Bool, l1.size = n → Region.ready md (ops.extract 0 n) l1 = [] → l1 = Array.replicate n true := fun l1 hs hr => by
    have hall : ∀ k, k < n → l1[k]? = some true := by
      intro k
      induction k using Nat.strongRecOn with
      | ind k ih =>
        intro hk
        cases hb : l1[k]? with
        | none => rw [Array.getElem?_eq_none_iff] at hb; omega
        | some b =>
          cases b with
          | true => rfl
          | false =>
            obtain ⟨o, ho⟩ : ∃ o, ops[k]? = some o := ⟨ops[k], by simp⟩
            have : k ∈ Region.ready md (ops.extract 0 n) l1 := mem_ready.2 ⟨getD_of_some hb _, o, by rw [hx k hk]; exact ho, fun e he hbd => getD_of_some (ih e.on ((hback k o hk ho).2 e he hbd) (by have := (hback k o hk ho).2 e he hbd; omega)) _⟩
            rw [hr] at this; cases this
    apply Array.ext_getElem?
    intro k
    rcases Nat.lt_or_ge k n with h | h
    · rw [hall k h]; simp [h]
    · rw [Array.getElem?_eq_none (by omega), Array.getElem?_eq_none (by simp; omega)]
  have hLeq : ∀ l1 L : Array Bool, TailRel n ops.size l1 L → l1 = Array.replicate n true → L = Lt := fun l1 L hR he => by
    subst he
    apply Array.ext_getElem?
    intro k
    rcases Nat.lt_or_ge k n with h | h
    · rw [hR.lo k h, hLt.lo k h]
    · rcases Nat.lt_or_ge k ops.size with h' | h'
      · rw [hR.hi k h h', hLt.hi k h h']
      · rw [Array.getElem?_eq_none (by rw [hR.s2]; exact h'), Array.getElem?_eq_none (by rw [hLt.s2]; exact h')]
  -- a later one that is ready: all have come up
  have hlate : ∀ (l1 L : Array Bool), TailRel n ops.size l1 L → (∀ k o, k < n → ops[k]? = some o → l1[k]? = some true → ∀ e ∈ o.after, Region.binds md e = true → l1[e.on]? = some true) →
      ∀ j ∈ Region.ready md ops L, n ≤ j → l1 = Array.replicate n true := fun l1 L hR hcl j hj hn => by
    obtain ⟨hj0, oj, hoj, hja⟩ := mem_ready.1 hj
    have hjs : j < ops.size := (Array.getElem?_eq_some_iff.1 hoj).1
    have hjn : j = n := by
      rcases h3 j hjs with h | h
      · omega
      · rcases Nat.lt_or_ge n j with h' | h'
        · obtain ⟨o, ho, e, he, hb, hon⟩ := onTo_spec h
          rw [hoj] at ho; cases ho
          have h5 := some_of_getD (hja e he hb)
          rw [hon, hR.hi (j - 1) (by omega) (by omega)] at h5
          cases h5
        · omega
    subst hjn
    have hall : ∀ d k, k + d = j → d ≠ 0 → l1[k]? = some true := by
      intro d
      induction d using Nat.strongRecOn with
      | ind d ih =>
        intro k hkd hd0
        obtain ⟨i, hi, hki, hon⟩ := h2 k (by omega)
        obtain ⟨o, ho, e, he, hb, hk⟩ := onTo_spec hon
        rcases Nat.lt_or_ge i j with hlt | hge
        · have := hcl i o hlt ho (ih (j - i) (by omega) i (by omega) (by omega)) e he hb
          rwa [hk] at this
        · have : i = j := by omega
          subst this
          rw [hoj] at ho; cases ho
          have h5 := some_of_getD (hja e he hb)
          rw [hk, hR.lo k (by omega)] at h5
          exact h5
    apply Array.ext_getElem?
    intro k
    rcases Nat.lt_or_ge k j with h | h
    · rw [hall (j - k) k (by omega) (by omega)]; simp [h]
    · rw [Array.getElem?_eq_none (by rw [hR.s1]; exact h), Array.getElem?_eq_none (by simp; omega)]
  intro fuel
  induction fuel with
  | zero =>
    intro l1 L a w hR hcl hC h
    rw [Nat.zero_add, hLeq l1 L hR (hdone l1 hR.s1 h.1)]
    exact htail a w hC h.2
  | succ fuel ih =>
    intro l1 L a w hR hcl hC h
    by_cases he : l1 = Array.replicate n true
    · have hr : Region.ready md (ops.extract 0 n) l1 = [] := by
        apply List.eq_nil_iff_forall_not_mem.2
        intro k hk
        obtain ⟨h0, o, ho, _⟩ := mem_ready.1 hk
        have hkn : k < n := by have := (Array.getElem?_eq_some_iff.1 ho).1; simp at this; omega
        have := false_of_getD h0
        rw [he] at this
        simp [hkn] at this
      rw [hLeq l1 L hR he]
      exact wpAny_mores _ _ _ _ _ (htail a w hC (h.1 hr))
    · rw [Nat.succ_add]
      refine ⟨fun hr => ?_, fun i hi => ?_⟩
      · exfalso
        refine he (hdone l1 hR.s1 ?_)
        apply List.eq_nil_iff_forall_not_mem.2
        intro k hk
        obtain ⟨h0, o, ho, hal⟩ := mem_ready.1 hk
        have hkn : k < n := by have := (Array.getElem?_eq_some_iff.1 ho).1; simp at this; omega
        rw [hx k hkn] at ho
        have : k ∈ Region.ready md ops L := mem_ready.2 ⟨getD_of_some (by rw [hR.lo k hkn]; exact false_of_getD h0) _, o, ho, fun e he hb => getD_of_some (by rw [hR.lo e.on (by have := (hback k o hkn ho).2 e he hb; omega)]; exact some_of_getD (hal e he hb)) _⟩
        rw [hr] at this; cases this
      · have hin : i < n := by
          rcases Nat.lt_or_ge i n with h' | h'
          · exact h'
          · exact absurd (hlate l1 L hR hcl i hi h') he
        obtain ⟨h0, o, ho, hal⟩ := mem_ready.1 hi
        have hi1 : i ∈ Region.ready md (ops.extract 0 n) l1 := mem_ready.2 ⟨getD_of_some (by rw [← hR.lo i hin]; exact false_of_getD h0) _, o, by rw [hx i hin]; exact ho, fun e he hb => getD_of_some (by rw [← hR.lo e.on (by have := (hback i o hin ho).2 e he hb; omega)]; exact some_of_getD (hal e he hb)) _⟩
        have hR' : TailRel n ops.size (l1.setIfInBounds i true) (L.setIfInBounds i true) := by
          refine ⟨by simp [hR.s1], by simp [hR.s2], fun k hk => ?_, fun k hk hk' => ?_⟩
          · rw [Array.getElem?_setIfInBounds, Array.getElem?_setIfInBounds, hR.lo k hk, hR.s1, hR.s2]
            by_cases hik : i = k
            · subst hik; simp [hin, Nat.lt_of_lt_of_le hin h4]
            · simp [hik]
          · rw [Array.getElem?_setIfInBounds_ne (by omega)]; exact hR.hi k hk hk'
        have hcl' : ∀ k o, k < n → ops[k]? = some o → (l1.setIfInBounds i true)[k]? = some true → ∀ e ∈ o.after, Region.binds md e = true → (l1.setIfInBounds i true)[e.on]? = some true := by
          intro k o' hk ho' hkl e he' hb
          have hor : l1[e.on]? = some true := by
            by_cases hik : i = k
            · subst hik
              rw [ho] at ho'; cases ho'
              have h5 := some_of_getD (hal e he' hb)
              rwa [hR.lo e.on (by have := (hback i o hin ho).2 e he' hb; omega)] at h5
            · rw [Array.getElem?_setIfInBounds_ne hik] at hkl
              exact hcl k o' hk ho' hkl e he' hb
          by_cases hie : i = e.on
          · subst hie; rw [Array.getElem?_setIfInBounds_self]; simp [hR.s1, hin]
          · rw [Array.getElem?_setIfInBounds_ne hie]; exact hor
        have hq := wpOp_of_qOp (Q' := Q') hC (fun a' w' hw' h' => ih _ _ a' w' hR' hcl' hw' h') (h.2 i hi1)
        unfold wpOp at hq ⊢
        rw [hx i hin] at hq
        simp only [ho] at hq ⊢
        have hg := (hback i o hin ho).1
        simpa [Region.wanted, hg] using hq

theorem wp_region_quiet_tail {id : Nat} {Q : Exit → Act → World → Prop} {a : Act} {w : World} {l : List Oper} (n : Nat) (hm : P.follows .mixedOrders = true) (hB : Region.lexB .any (l.take n).toArray = true)
    (hT : (tailB .any l.toArray n && seqB .any l.toArray (l.length - n) n ((Array.replicate n true) ++ (Array.replicate (l.length - n) false))) = true) (hC : C { w with drawn := w.drawn + 1 })
    (h : wpQuiet P (l.take n).toArray C (fun a' => ∀ w', C w' → wpList P l.toArray Q (l.drop n) a' w') (l.take n) a) : (Code.region id l.toArray true).wp P Q a w := by
  rw [Bool.and_eq_true] at hT
  obtain ⟨hT, hS⟩ := hT
  have hn : n ≤ l.length := by simp only [tailB, Bool.and_eq_true, decide_eq_true_eq] at hT; simpa using hT.2
  refine wp_region_any hm ?_
  have hx : l.toArray.extract 0 n = (l.take n).toArray := by simp
  simp only [Region.lexB, Bool.and_eq_true] at hB
  have hq := wpAnyQ_lex (P := P) (C := C) (md := .any) hB.1 (l.take n) 0 (Array.replicate (l.take n).toArray.size false) a (by simp) (by simpa using hB.2) h
  have hlen : (l.take n).length = n := by rw [List.length_take]; omega
  have e := wpAny_of_first (P := P) (Q' := Q) (md := .any) (ops := l.toArray) (C := C) (Q1 := fun a' => ∀ w', C w' → wpList P l.toArray Q (l.drop n) a' w') (n := n) (m := l.length - n) hT (Array.replicate n true ++ Array.replicate (l.length - n) false)
    ⟨by simp, by simp; omega, fun k hk => by rw [Array.getElem?_append_left (by simpa using hk)], fun k hk hk' => by
      rw [Array.getElem?_append_right (by simpa using hk), Array.getElem?_replicate, if_pos (by simp at hk' ⊢; omega)]⟩
    (fun a' w' hw' hQ1 => by
      have := wpAny_seq (P := P) (Q := Q) (md := .any) (ops := l.toArray) (l.drop n) n (Array.replicate n true ++ Array.replicate (l.length - n) false) a' w' (fun j => by simp) (by rw [List.length_drop]; exact hS) (hQ1 w' hw')
      rwa [List.length_drop] at this)
    n (Array.replicate n false) (Array.replicate l.toArray.size false) a { w with drawn := w.drawn + 1 }
    ⟨by simp, by simp, fun k hk => by rw [Array.getElem?_replicate, Array.getElem?_replicate, if_pos (by simp; omega), if_pos hk], fun k hk hk' => by rw [Array.getElem?_replicate, if_pos hk']⟩
    (fun k o hk _ hkl => by simp [hk] at hkl)
    hC (by rw [hx]; simpa [hlen] using hq)
  have hs : n + (l.length - n) = l.toArray.size := by simp; omega
  rw [hs] at e
  exact e
end
end Go
namespace Go.Proofs.YtmkjlhplgcifiaaGreat
open Go.ChangeShapes Go.WideShapes Go.ChangeAt Go.RowKit
set_option linter.unusedVariables false
set_option linter.unusedSimpArgs false

structure DRow where
  sb : Int
  sn : Int
  db : Int
  dn : Int
  proto : Int
  lo : Int
  hi : Int
  allow : Bool
def encRow (r : DRow) : List Value := [.int .i64 r.sb, .int .i64 r.sn, .int .i64 r.db, .int .i64 r.dn, .int .i64 r.proto, .int .i64 r.lo, .int .i64 r.hi, .bool r.allow]
def cmpI (a b : Int) : Int := if a < b then -1 else if b < a then 1 else 0
def orI : List Int → Int
  | [] => 0
  | a :: l => if a = 0 then orI l else a
def lexC : List Int → List Int → Int
  | a :: s, b :: t => if cmpI a b = 0 then lexC s t else cmpI a b
  | _, _ => 0
def rowKey (r : DRow) : List Int := [r.sb, r.sn, r.db, r.dn, r.proto, r.lo, r.hi]
def cmpRow (x y : DRow) : Int := orI [orI [cmpI x.sb y.sb, cmpI x.sn y.sn], orI [cmpI x.db y.db, cmpI x.dn y.dn], cmpI x.proto y.proto, cmpI x.lo y.lo, cmpI x.hi y.hi]

theorem cmpI_zero {a b : Int} : cmpI a b = 0 ↔ a = b := by unfold cmpI; split <;> (try split) <;> omega
theorem cmpI_neg {a b : Int} : cmpI a b < 0 ↔ a < b := by unfold cmpI; split <;> (try split) <;> omega
theorem cmpRow_lex (x y : DRow) : cmpRow x y = lexC (rowKey x) (rowKey y) := by
  unfold cmpRow rowKey
  simp only [orI, lexC]
  repeat' split
  all_goals first | rfl | simp_all
theorem lexC_self : ∀ s : List Int, lexC s s = 0
  | [] => rfl
  | a :: s => by rw [lexC, if_pos (cmpI_zero.2 rfl), lexC_self s]
theorem lexC_trans : ∀ s t u : List Int, s.length = t.length → t.length = u.length → lexC s t < 0 → lexC t u < 0 → lexC s u < 0
  | [], _, _, _, _, h, _ => by simp [lexC] at h
  | _ :: _, [], _, h, _, _, _ => by simp at h
  | _ :: _, _ :: _, [], _, h, _, _ => by simp at h
  | a :: s, b :: t, c :: u, h1, h2, h3, h4 => by
    rw [lexC] at *
    have ih := lexC_trans s t u (by simpa using h1) (by simpa using h2)
    by_cases e1 : cmpI a b = 0
    · rw [if_pos e1] at h3
      have e1' := cmpI_zero.1 e1
      subst e1'
      by_cases e2 : cmpI a c = 0
      · rw [if_pos e2] at h4 ⊢; exact ih h3 h4
      · rw [if_neg e2] at h4 ⊢; exact h4
    · rw [if_neg e1] at h3
      by_cases e2 : cmpI b c = 0
      · rw [cmpI_zero] at e2; subst e2; rw [if_neg e1]; exact h3
      · rw [if_neg e2] at h4
        have h5 : a < c := by have := cmpI_neg.1 h3; have := cmpI_neg.1 h4; omega
        rw [if_neg (fun h => by have := cmpI_zero.1 h; omega)]
        exact cmpI_neg.2 h5
theorem lexC_ntrans : ∀ s t u : List Int, s.length = t.length → t.length = u.length → ¬ lexC s t < 0 → ¬ lexC t u < 0 → ¬ lexC s u < 0
  | [], _, _, _, _, _, _ => by simp [lexC]
  | _ :: _, [], _, h, _, _, _ => by simp at h
  | _ :: _, _ :: _, [], _, h, _, _ => by simp at h
  | a :: s, b :: t, c :: u, h1, h2, h3, h4 => by
    rw [lexC] at *
    have ih := lexC_ntrans s t u (by simpa using h1) (by simpa using h2)
    by_cases e1 : cmpI a b = 0
    · rw [if_pos e1] at h3
      have e1' := cmpI_zero.1 e1
      subst e1'
      by_cases e2 : cmpI a c = 0
      · rw [if_pos e2] at h4 ⊢; exact ih h3 h4
      · rw [if_neg e2] at h4 ⊢; exact h4
    · rw [if_neg e1] at h3
      by_cases e2 : cmpI b c = 0
      · rw [cmpI_zero] at e2; subst e2; rw [if_neg e1]; exact h3
      · rw [if_neg e2] at h4
        rw [cmpI_neg] at h3 h4
        have h5 : c < a := by
          have n1 : ¬ a = b := fun h => e1 (cmpI_zero.2 h)
          have n2 : ¬ b = c := fun h => e2 (cmpI_zero.2 h)
          omega
        rw [if_neg (fun h => by have := cmpI_zero.1 h; omega), cmpI_neg]
        omega
theorem swoRow : Go.Sort.SWO (ltOf cmpRow) where
  irrefl x := by unfold ltOf; rw [cmpRow_lex, lexC_self]; rfl
  trans x y z h1 h2 := by
    unfold ltOf at *; rw [cmpRow_lex] at *
    simp only [decide_eq_true_eq] at *
    exact lexC_trans _ (rowKey y) _ rfl rfl h1 h2
  ntrans x y z h1 h2 := by
    unfold ltOf at *; rw [cmpRow_lex] at *
    simp only [decide_eq_false_iff_not] at *
    exact lexC_ntrans _ (rowKey y) _ rfl rfl h1 h2

theorem isNaN_any (x : Int) (w : World) : Calls Tryz.prog 186 #[.int .i64 x] w fun e w' => e = .returned (.bool false) ∧ w' = w := by
  go_enter Tryz.func186, Tryz.ntmps186
  go_wp2
  go_ret
  simp
theorem cmpInt_any (x y : Int) (w : World) : Calls Tryz.prog 182 #[.int .i64 x, .int .i64 y] w fun e w' => e = .returned (.int .i64 (cmpI x y)) ∧ w' = w := by
  by_cases h1 : x < y
  · have HF := hid (show cmpI x y = -1 by rw [cmpI, if_pos h1])
    go_enter Tryz.func182, Tryz.ntmps182
    go_wp2_with (go_at_call 186; refine (isNaN_any _ _).mono ?_; rintro e w' ⟨rfl, rfl⟩)
    go_ret
    exact ⟨by rw [HF.out]; rfl, rfl⟩
  · by_cases h2 : y < x
    · have HF := hid (show cmpI x y = 1 by rw [cmpI, if_neg h1, if_pos h2])
      go_enter Tryz.func182, Tryz.ntmps182
      go_wp2_with (go_at_call 186; refine (isNaN_any _ _).mono ?_; rintro e w' ⟨rfl, rfl⟩)
      go_ret
      exact ⟨by rw [HF.out]; rfl, rfl⟩
    · have HF := hid (show cmpI x y = 0 by rw [cmpI, if_neg h1, if_neg h2])
      go_enter Tryz.func182, Tryz.ntmps182
      go_wp2_with (go_at_call 186; refine (isNaN_any _ _).mono ?_; rintro e w' ⟨rfl, rfl⟩)
      go_ret
      exact ⟨by rw [HF.out]; rfl, rfl⟩

theorem orI_at : ∀ {l : List Int} {k : Nat} {x : Int}, l[k]? = some x → (∀ y ∈ l.take k, y = 0) → ¬ x = 0 → orI l = x
  | [], _, _, h, _, _ => by simp at h
  | a :: l, 0, x, h, _, hx => by simp at h; subst h; rw [orI, if_neg hx]
  | a :: l, k + 1, x, h, h0, hx => by
    rw [orI, if_pos (h0 a (by simp))]
    exact orI_at (k := k) (by simpa using h) (fun y hy => h0 y (by simp [hy])) hx
theorem orI_none : ∀ {l : List Int}, (∀ y ∈ l, y = 0) → orI l = 0
  | [], _ => rfl
  | a :: l, h => by rw [orI, if_pos (h a (by simp))]; exact orI_none fun y hy => h y (by simp [hy])
theorem or_any (l : List Int) (b cap : Nat) (w : World) (hlen : l.length ≤ 100) (hc : ∀ j v, l[j]? = some v → w.cell? ⟨b, j, none⟩ = some (.int .i64 v)) :
    Calls Tryz.prog 180 #[.slice (some ⟨b, 0, none⟩) l.length cap] w fun e w' => e = .returned (.int .i64 (orI l)) ∧ w' = w := by
  have HC := hid hc
  clear hc
  go_enter Tryz.func180, Tryz.ntmps180
  go_wp2
  go_loopw [8] (fun i wr => ∃ k : Nat, k ≤ l.length ∧ i = .int .i64 k ∧ (∀ y ∈ l.take k, y = 0) ∧ wr = w) (fun i _ => l.length - (intOf i).toNat)
  case atStart => exact ⟨0, Nat.zero_le _, rfl, fun y hy => by simp at hy, rfl⟩
  case round =>
    obtain ⟨k, hk, rfl, hall, rfl⟩ := hrel
    have HA := hid hall
    clear hall
    by_cases hlt : k < l.length
    · obtain ⟨x, hxk⟩ : ∃ x, l[k]? = some x := ⟨l[k], by simp [hlt]⟩
      have HX := hid hxk
      clear hxk
      have c0 := HC.out k x HX.out
      cases hx : (x != 0)
      · go_wp2
        exact ⟨⟨k + 1, by omega, by go_num, fun y hy => by
          rw [List.take_add_one, HX.out] at hy
          rcases List.mem_append.1 hy with h | h
          · exact HA.out y h
          · simp at h; subst h; simpa using hx, trivial⟩, by simp [intOf]; omega⟩
      · have HF := hid (orI_at HX.out HA.out (by simpa using hx))
        go_wp2
        go_ret
        exact ⟨by rw [HF.out]; rfl, rfl⟩
    · have HF := hid (orI_none (l := l) (by have := HA.out; rwa [List.take_of_length_le (by omega)] at this))
      go_wp2
      go_ret
      exact ⟨by rw [HF.out]; rfl, rfl⟩

theorem cells_new_ints (X : World) (l : List Int) (t : TypeId) : ∀ j v, l[j]? = some v → (X.alloc (.cells (l.map (Value.int .i64)).toArray t)).cell? ⟨X.heap.size, j, none⟩ = some (.int .i64 v) := fun j v h => by simp [h]
theorem cells_new_2 (X : World) (a b : Int) (t : TypeId) : ∀ j v, [a, b][j]? = some v → (X.alloc (.cells #[.int .i64 a, .int .i64 b] t)).cell? ⟨X.heap.size, j, none⟩ = some (.int .i64 v) := cells_new_ints X [a, b] t
theorem cells_new_5 (X : World) (a b c d e : Int) (t : TypeId) : ∀ j v, [a, b, c, d, e][j]? = some v → (X.alloc (.cells #[.int .i64 a, .int .i64 b, .int .i64 c, .int .i64 d, .int .i64 e] t)).cell? ⟨X.heap.size, j, none⟩ = some (.int .i64 v) := cells_new_ints X [a, b, c, d, e] t
theorem take_10 {α : Type} (a0 a1 a2 a3 a4 a5 a6 a7 a8 a9 : α) (r : List α) : (a0 :: a1 :: a2 :: a3 :: a4 :: a5 :: a6 :: a7 :: a8 :: a9 :: r).take 10 = [a0, a1, a2, a3, a4, a5, a6, a7, a8, a9] := rfl
theorem drop_10 {α : Type} (a0 a1 a2 a3 a4 a5 a6 a7 a8 a9 : α) (r : List α) : (a0 :: a1 :: a2 :: a3 :: a4 :: a5 :: a6 :: a7 :: a8 :: a9 :: r).drop 10 = r := rfl

theorem cmpBlk_any (x0 x1 y0 y1 : Int) (w : World) : Calls Tryz.prog 181 #[.agg #[.int .i64 x0, .int .i64 x1], .agg #[.int .i64 y0, .int .i64 y1]] w fun e w' => e = .returned (.int .i64 (orI [cmpI x0 y0, cmpI x1 y1])) ∧ ∃ q os, w' = Go.Sort.grow (w.drewN q) os := by
  go_enter Tryz.func181, Tryz.ntmps181
  go_wp2
  obtain ⟨W, hW⟩ : ∃ W, W = (w.alloc (.cells #[.int .i64 x0, .int .i64 x1] 47)).alloc (.cells #[.int .i64 y0, .int .i64 y1] 47) := ⟨_, rfl⟩
  have c0 : ∀ n os, (Go.Sort.grow (W.drewN n) os).cell? ⟨w.heap.size, 0, none⟩ = some (.int .i64 x0) := fun n os => cell_grown (by rw [hW]; simp; omega) (by rw [hW]; simp [go_sem]) n os
  have c1 : ∀ n os, (Go.Sort.grow (W.drewN n) os).cell? ⟨w.heap.size, 1, none⟩ = some (.int .i64 x1) := fun n os => cell_grown (by rw [hW]; simp; omega) (by rw [hW]; simp [go_sem]) n os
  have c2 : ∀ n os, (Go.Sort.grow (W.drewN n) os).cell? ⟨w.heap.size + 1, 0, none⟩ = some (.int .i64 y0) := fun n os => cell_grown (by rw [hW]; simp) (by rw [hW]; simp [go_sem]) n os
  have c3 : ∀ n os, (Go.Sort.grow (W.drewN n) os).cell? ⟨w.heap.size + 1, 1, none⟩ = some (.int .i64 y1) := fun n os => cell_grown (by rw [hW]; simp) (by rw [hW]; simp [go_sem]) n os
  have HW : ∀ q os, ∃ q' os', Go.Sort.grow (W.drewN q) os = Go.Sort.grow (w.drewN q') os' := fun q os => ⟨q, _, by rw [hW, Go.Sort.alloc_eq_grow, Go.Sort.alloc_eq_grow, Go.Sort.grow_grow]; exact Go.Sort.grow_grow (w.drewN q) _ os⟩
  rw [← hW]
  have HH := hid HW
  clear hW HW
  refine wp_region_quiet_tail (C := fun w' => ∃ p : GrownBy, w' = Go.Sort.grow (W.drewN p.n) p.os) 10 (by kernel_rfl) (by kernel_rfl) (by kernel_rfl) ⟨⟨1, #[]⟩, by rw [Go.Sort.grow_empty]; rfl⟩ ?_
  simp only [take_10, drop_10]
  repeat (quiet_step (first | (go_at_call 182; exact (cmpInt_any _ _ _).mono fun e w' ⟨he, hw⟩ => ⟨he, ⟨⟨_, _⟩, hw⟩⟩)))
  refine wpQuiet_nil ?_
  rintro X ⟨⟨q, os⟩, hX⟩
  have HX := hid (hX ▸ HH.out q os)
  clear hX
  go_wp2_with (go_at_call 180; refine (or_any [cmpI x0 y0, cmpI x1 y1] _ _ _ (by simp) (cells_new_2 X _ _ _)).mono ?_; rintro e w' ⟨rfl, rfl⟩)
  go_ret
  refine ⟨rfl, ?_⟩
  obtain ⟨q', os', h⟩ := HX.out
  exact ⟨q', os' ++ #[_], by rw [h, Go.Sort.alloc_eq_grow, Go.Sort.grow_grow]⟩

theorem take_25 {α : Type} (a0 a1 a2 a3 a4 a5 a6 a7 a8 a9 b0 b1 b2 b3 b4 b5 b6 b7 b8 b9 c0 c1 c2 c3 c4 : α) (r : List α) : (a0 :: a1 :: a2 :: a3 :: a4 :: a5 :: a6 :: a7 :: a8 :: a9 :: b0 :: b1 :: b2 :: b3 :: b4 :: b5 :: b6 :: b7 :: b8 :: b9 :: c0 :: c1 :: c2 :: c3 :: c4 :: r).take 25 = [a0, a1, a2, a3, a4, a5, a6, a7, a8, a9, b0, b1, b2, b3, b4, b5, b6, b7, b8, b9, c0, c1, c2, c3, c4] := rfl
theorem drop_25 {α : Type} (a0 a1 a2 a3 a4 a5 a6 a7 a8 a9 b0 b1 b2 b3 b4 b5 b6 b7 b8 b9 c0 c1 c2 c3 c4 : α) (r : List α) : (a0 :: a1 :: a2 :: a3 :: a4 :: a5 :: a6 :: a7 :: a8 :: a9 :: b0 :: b1 :: b2 :: b3 :: b4 :: b5 :: b6 :: b7 :: b8 :: b9 :: c0 :: c1 :: c2 :: c3 :: c4 :: r).drop 25 = r := rfl

set_option maxHeartbeats 1000000 in
theorem cmpRow_any (x y : DRow) (w : World) : Calls Tryz.prog 165 #[.agg #[.int .i64 x.sb, .int .i64 x.sn, .int .i64 x.db, .int .i64 x.dn, .int .i64 x.proto, .int .i64 x.lo, .int .i64 x.hi, .bool x.allow], .agg #[.int .i64 y.sb, .int .i64 y.sn, .int .i64 y.db, .int .i64 y.dn, .int .i64 y.proto, .int .i64 y.lo, .int .i64 y.hi, .bool y.allow]] w fun e w' => e = .returned (.int .i64 (cmpRow x y)) ∧ ∃ q os, w' = Go.Sort.grow (w.drewN q) os := by
  have HF := hid (show cmpRow x y = orI [orI [cmpI x.sb y.sb, cmpI x.sn y.sn], orI [cmpI x.db y.db, cmpI x.dn y.dn], cmpI x.proto y.proto, cmpI x.lo y.lo, cmpI x.hi y.hi] from rfl)
  go_enter Tryz.func165, Tryz.ntmps165
  go_wp2
  obtain ⟨W, hW⟩ : ∃ W, W = (w.alloc (.cells #[.int .i64 x.sb, .int .i64 x.sn, .int .i64 x.db, .int .i64 x.dn, .int .i64 x.proto, .int .i64 x.lo, .int .i64 x.hi, .bool x.allow] 49)).alloc (.cells #[.int .i64 y.sb, .int .i64 y.sn, .int .i64 y.db, .int .i64 y.dn, .int .i64 y.proto, .int .i64 y.lo, .int .i64 y.hi, .bool y.allow] 49) := ⟨_, rfl⟩
  have c0 : ∀ n os, (Go.Sort.grow (W.drewN n) os).cell? ⟨w.heap.size, 0, none⟩ = some (.int .i64 x.sb) := fun n os => cell_grown (by rw [hW]; simp; omega) (by rw [hW]; simp [go_sem]) n os
  have d0 : ∀ n os, (Go.Sort.grow (W.drewN n) os).cell? ⟨w.heap.size + 1, 0, none⟩ = some (.int .i64 y.sb) := fun n os => cell_grown (by rw [hW]; simp) (by rw [hW]; simp [go_sem]) n os
  have c1 : ∀ n os, (Go.Sort.grow (W.drewN n) os).cell? ⟨w.heap.size, 1, none⟩ = some (.int .i64 x.sn) := fun n os => cell_grown (by rw [hW]; simp; omega) (by rw [hW]; simp [go_sem]) n os
  have d1 : ∀ n os, (Go.Sort.grow (W.drewN n) os).cell? ⟨w.heap.size + 1, 1, none⟩ = some (.int .i64 y.sn) := fun n os => cell_grown (by rw [hW]; simp) (by rw [hW]; simp [go_sem]) n os
  have c2 : ∀ n os, (Go.Sort.grow (W.drewN n) os).cell? ⟨w.heap.size, 2, none⟩ = some (.int .i64 x.db) := fun n os => cell_grown (by rw [hW]; simp; omega) (by rw [hW]; simp [go_sem]) n os
  have d2 : ∀ n os, (Go.Sort.grow (W.drewN n) os).cell? ⟨w.heap.size + 1, 2, none⟩ = some (.int .i64 y.db) := fun n os => cell_grown (by rw [hW]; simp) (by rw [hW]; simp [go_sem]) n os
  have c3 : ∀ n os, (Go.Sort.grow (W.drewN n) os).cell? ⟨w.heap.size, 3, none⟩ = some (.int .i64 x.dn) := fun n os => cell_grown (by rw [hW]; simp; omega) (by rw [hW]; simp [go_sem]) n os
  have d3 : ∀ n os, (Go.Sort.grow (W.drewN n) os).cell? ⟨w.heap.size + 1, 3, none⟩ = some (.int .i64 y.dn) := fun n os => cell_grown (by rw [hW]; simp) (by rw [hW]; simp [go_sem]) n os
  have c4 : ∀ n os, (Go.Sort.grow (W.drewN n) os).cell? ⟨w.heap.size, 4, none⟩ = some (.int .i64 x.proto) := fun n os => cell_grown (by rw [hW]; simp; omega) (by rw [hW]; simp [go_sem]) n os
  have d4 : ∀ n os, (Go.Sort.grow (W.drewN n) os).cell? ⟨w.heap.size + 1, 4, none⟩ = some (.int .i64 y.proto) := fun n os => cell_grown (by rw [hW]; simp) (by rw [hW]; simp [go_sem]) n os
  have c5 : ∀ n os, (Go.Sort.grow (W.drewN n) os).cell? ⟨w.heap.size, 5, none⟩ = some (.int .i64 x.lo) := fun n os => cell_grown (by rw [hW]; simp; omega) (by rw [hW]; simp [go_sem]) n os
  have d5 : ∀ n os, (Go.Sort.grow (W.drewN n) os).cell? ⟨w.heap.size + 1, 5, none⟩ = some (.int .i64 y.lo) := fun n os => cell_grown (by rw [hW]; simp) (by rw [hW]; simp [go_sem]) n os
  have c6 : ∀ n os, (Go.Sort.grow (W.drewN n) os).cell? ⟨w.heap.size, 6, none⟩ = some (.int .i64 x.hi) := fun n os => cell_grown (by rw [hW]; simp; omega) (by rw [hW]; simp [go_sem]) n os
  have d6 : ∀ n os, (Go.Sort.grow (W.drewN n) os).cell? ⟨w.heap.size + 1, 6, none⟩ = some (.int .i64 y.hi) := fun n os => cell_grown (by rw [hW]; simp) (by rw [hW]; simp [go_sem]) n os
  have HW : ∀ q os, ∃ q' os', Go.Sort.grow (W.drewN q) os = Go.Sort.grow (w.drewN q') os' := fun q os => ⟨q, _, by rw [hW, Go.Sort.alloc_eq_grow, Go.Sort.alloc_eq_grow, Go.Sort.grow_grow]; exact Go.Sort.grow_grow (w.drewN q) _ os⟩
  rw [← hW]
  have HH := hid HW
  clear hW HW
  refine wp_region_quiet_tail (C := fun w' => ∃ p : GrownBy, w' = Go.Sort.grow (W.drewN p.n) p.os) 25 (by kernel_rfl) (by kernel_rfl) (by kernel_rfl) ⟨⟨1, #[]⟩, by rw [Go.Sort.grow_empty]; rfl⟩ ?_
  simp only [take_25, drop_25]
  repeat (quiet_step (first
    | (go_at_call 182; exact (cmpInt_any _ _ _).mono fun e w' ⟨he, hw⟩ => ⟨he, ⟨⟨_, _⟩, hw⟩⟩)
    | (go_at_call 181; exact Calls.grown_of (cmpBlk_any _ _ _ _ _))))
  refine wpQuiet_nil ?_
  rintro X ⟨⟨q, os⟩, hX⟩
  have HX := hid (hX ▸ HH.out q os)
  clear hX
  go_wp2_with (go_at_call 180; refine (or_any [orI [cmpI x.sb y.sb, cmpI x.sn y.sn], orI [cmpI x.db y.db, cmpI x.dn y.dn], cmpI x.proto y.proto, cmpI x.lo y.lo, cmpI x.hi y.hi] _ _ _ (by simp) (cells_new_5 X _ _ _ _ _ _)).mono ?_; rintro e w' ⟨rfl, rfl⟩)
  go_ret
  refine ⟨by rw [HF.out]; rfl, ?_⟩
  obtain ⟨q', os', h⟩ := HX.out
  exact ⟨q', os' ++ #[_], by rw [h, Go.Sort.alloc_eq_grow, Go.Sort.grow_grow]⟩
end Go.Proofs.YtmkjlhplgcifiaaGreat
