/-
  Plain data of a cluster, the document's answers over them, and what it means that a value of the program reads as such data in a world.
-/
import Derived.WalkKit
import Derived.ProofKit
import Derived.OpenShut
import Derived.WalkSpells
import Derived.BigQuiet
import Derived.Deep.Quiet
namespace Go.Proofs.YtmkjlhplgcifiaaGreat
open Go.ChangeShapes Go.WideShapes Go.ChangeAt Go.RowKit
set_option linter.unusedVariables false
structure DBlk where
  base : Int
  bits : Int
structure DPod where
  host : Int
  ip : Int
  space : Int
  labels : Int
structure DPeer where
  kind : Int
  need : Int
  ban : Int
  spaces : Int
  base : Int
  bits : Int
  exc : List DBlk
structure DPort where
  proto : Int
  lo : Int
  hi : Int
structure DRule where
  peers : List DPeer
  ports : List DPort
structure DPol where
  space : Int
  need : Int
  ban : Int
  ways : Int
  outs : List DRule
  ins : List DRule
structure DClu where
  pods : List DPod
  pols : List DPol
structure DPkt where
  src : Int
  dst : Int
  proto : Int
  port : Int
/-! ### the document's answers -/
def btw (n lo hi : Int) : Bool := decide (lo ≤ n) && decide (n ≤ hi)
def pw (bits : Int) : Int := (2 : Int) ^ (32 - bits).toNat
def blkOk (x : DBlk) : Bool := btw x.bits 0 32 && btw x.base 0 4294967295 && decide (x.base % pw x.bits = 0)
def blkHas (ip : Int) (x : DBlk) : Bool := decide (ip / pw x.bits = x.base / pw x.bits)
def selOk (need ban : Int) : Bool := btw need 0 255 && btw ban 0 255
def podOk (p : DPod) : Bool := btw p.host 0 3 && btw p.ip 0 4294967295 && btw p.space 0 3 && btw p.labels 0 255
def prtOk (p : DPort) : Bool := btw p.proto 0 2 && btw p.lo 0 65535 && btw p.hi 0 65535 && decide (p.lo ≤ p.hi)
def few {α : Type} (l : List α) (most : Int) (f : α → Bool) : Bool := decide ((l.length : Int) ≤ most) && l.all f
def peerOk (x : DPeer) : Bool :=
  if x.kind = 1 then selOk x.need x.ban && btw x.spaces 0 15 && decide (x.base = 0) && decide (x.bits = 0) && decide (x.exc.length = 0)
  else decide (x.kind = 2) && blkOk ⟨x.base, x.bits⟩ && decide (x.need = 0) && decide (x.ban = 0) && decide (x.spaces = 0) && few x.exc 2 blkOk
def rulOk (r : DRule) : Bool := few r.peers 2 peerOk && few r.ports 2 prtOk
def rulesOk (l : List DRule) (way : Bool) : Bool := few l 2 rulOk && (way || decide (l.length = 0))
def polOk (p : DPol) : Bool := btw p.space 0 3 && selOk p.need p.ban && btw p.ways 1 3 && rulesOk p.outs (decide (p.ways % 2 = 1)) && rulesOk p.ins (decide (p.ways / 2 = 1))
def podGood (l : List DPod) (i : Nat) : Bool := match l[i]? with | none => true | some p => podOk p && (l.take i).all fun q => decide (q.ip ≠ p.ip)
def polGood (l : List DPol) (i : Nat) : Bool := match l[i]? with | none => true | some p => polOk p
def firstBad (good : Nat → Bool) (n : Nat) : Option Nat := (List.range n).find? fun i => !good i
def right (c : DClu) : Int × Int :=
  if 8 < c.pods.length ∨ 4 < c.pols.length then (1, 0)
  else match firstBad (podGood c.pods) c.pods.length with
    | some i => (2, i)
    | none => match firstBad (polGood c.pols) c.pols.length with
      | some i => (3, i)
      | none => (0, 0)
def pktOk (k : DPkt) : Bool := btw k.src 0 4294967295 && btw k.dst 0 4294967295 && btw k.proto 1 2 && btw k.port 0 65535
def bitOk (need ban labels u : Int) : Bool := !((need / u % 2 == 1) && !(labels / u % 2 == 1)) && !((ban / u % 2 == 1) && (labels / u % 2 == 1))
def sels (need ban labels : Int) : Bool := (List.range 8).all fun i => bitOk need ban labels (2 ^ i)
def podAt (l : List DPod) (ip : Int) : Option DPod := l.find? fun p => decide (p.ip = ip)
def peerHas (pods : List DPod) (space ip : Int) (x : DPeer) : Bool :=
  if x.kind = 2 then blkHas ip ⟨x.base, x.bits⟩ && !(x.exc.any (blkHas ip))
  else match podAt pods ip with
    | none => false
    | some p => sels x.need x.ban p.labels && (if x.spaces = 0 then decide (p.space = space) else x.spaces / 2 ^ p.space.toNat % 2 == 1)
def prtFits (k : DPkt) (x : DPort) : Bool := (decide (x.proto = 0) || decide (x.proto = k.proto)) && btw k.port x.lo x.hi
def eoa {α : Type} (l : List α) (f : α → Bool) : Bool := decide (l.length = 0) || l.any f
def ruleFits (pods : List DPod) (space : Int) (k : DPkt) (far : Int) (r : DRule) : Bool := eoa r.peers (peerHas pods space far) && eoa r.ports (prtFits k)
def hasWay (ways way : Int) : Bool := if way = 1 then ways % 2 == 1 else ways / 2 == 1
def rulesOf (q : DPol) (way : Int) : List DRule := if way = 1 then q.outs else q.ins
def applies (way : Int) (p : DPod) (q : DPol) : Bool := hasWay q.ways way && decide (q.space = p.space) && sels q.need q.ban p.labels
def letsGo (pods : List DPod) (way : Int) (k : DPkt) (far : Int) (q : DPol) : Bool := (rulesOf q way).any (ruleFits pods q.space k far)
def may (c : DClu) (way : Int) (k : DPkt) (near far : Int) : Bool :=
  match podAt c.pods near with
  | none => true
  | some p => (c.pols.all fun q => !applies way p q) || c.pols.any fun q => applies way p q && letsGo c.pods way k far q
def allowed (c : DClu) (k : DPkt) : Bool × Int :=
  if (right c).1 ≠ 0 then (false, (right c).1) else if pktOk k = false then (false, 4) else (may c 1 k k.src k.dst && may c 2 k k.dst k.src, 0)
/-! ### how data lie in memory -/
def RdSl {α : Type} (B : Nat) (w : World) (sz bytes : Nat) (E : Nat → World → Nat → Nat → α → Prop) (a : Option Addr) (l : List α) : Prop :=
  l.length * bytes ≤ 140737488351232 ∧ ∀ i x, l[i]? = some x → ∃ b off, a = some ⟨b, off, none⟩ ∧ b < B ∧ E B w b (off + i * sz) x
def eBlk (_B : Nat) (w : World) (b o : Nat) (x : DBlk) : Prop :=
  w.cell? ⟨b, o, none⟩ = some (.int .i64 x.base) ∧ w.cell? ⟨b, o + 1, none⟩ = some (.int .i64 x.bits)
def ePod (_B : Nat) (w : World) (b o : Nat) (x : DPod) : Prop :=
  w.cell? ⟨b, o, none⟩ = some (.int .i64 x.host) ∧ w.cell? ⟨b, o + 1, none⟩ = some (.int .i64 x.ip) ∧ w.cell? ⟨b, o + 2, none⟩ = some (.int .i64 x.space) ∧ w.cell? ⟨b, o + 3, none⟩ = some (.int .i64 x.labels)
def ePort (_B : Nat) (w : World) (b o : Nat) (x : DPort) : Prop :=
  w.cell? ⟨b, o, none⟩ = some (.int .i64 x.proto) ∧ w.cell? ⟨b, o + 1, none⟩ = some (.int .i64 x.lo) ∧ w.cell? ⟨b, o + 2, none⟩ = some (.int .i64 x.hi)
abbrev rdBlks (B : Nat) (w : World) (a : Option Addr) (l : List DBlk) : Prop := RdSl B w 2 16 eBlk a l
abbrev rdPods (B : Nat) (w : World) (a : Option Addr) (l : List DPod) : Prop := RdSl B w 4 32 ePod a l
abbrev rdPorts (B : Nat) (w : World) (a : Option Addr) (l : List DPort) : Prop := RdSl B w 3 24 ePort a l
def ePeer (B : Nat) (w : World) (b o : Nat) (x : DPeer) : Prop :=
  w.cell? ⟨b, o, none⟩ = some (.int .i64 x.kind) ∧ w.cell? ⟨b, o + 1, none⟩ = some (.int .i64 x.need) ∧ w.cell? ⟨b, o + 2, none⟩ = some (.int .i64 x.ban) ∧ w.cell? ⟨b, o + 3, none⟩ = some (.int .i64 x.spaces) ∧
  w.cell? ⟨b, o + 4, none⟩ = some (.int .i64 x.base) ∧ w.cell? ⟨b, o + 5, none⟩ = some (.int .i64 x.bits) ∧
  ∃ a c, w.cell? ⟨b, o + 6, none⟩ = some (.slice a x.exc.length c) ∧ rdBlks B w a x.exc
abbrev rdPeers (B : Nat) (w : World) (a : Option Addr) (l : List DPeer) : Prop := RdSl B w 7 72 ePeer a l
def eRule (B : Nat) (w : World) (b o : Nat) (x : DRule) : Prop :=
  (∃ a c, w.cell? ⟨b, o, none⟩ = some (.slice a x.peers.length c) ∧ rdPeers B w a x.peers) ∧ ∃ a c, w.cell? ⟨b, o + 1, none⟩ = some (.slice a x.ports.length c) ∧ rdPorts B w a x.ports
abbrev rdRules (B : Nat) (w : World) (a : Option Addr) (l : List DRule) : Prop := RdSl B w 2 48 eRule a l
def ePol (B : Nat) (w : World) (b o : Nat) (x : DPol) : Prop :=
  w.cell? ⟨b, o, none⟩ = some (.int .i64 x.space) ∧ w.cell? ⟨b, o + 1, none⟩ = some (.int .i64 x.need) ∧ w.cell? ⟨b, o + 2, none⟩ = some (.int .i64 x.ban) ∧ w.cell? ⟨b, o + 3, none⟩ = some (.int .i64 x.ways) ∧
  (∃ a c, w.cell? ⟨b, o + 4, none⟩ = some (.slice a x.outs.length c) ∧ rdRules B w a x.outs) ∧ ∃ a c, w.cell? ⟨b, o + 5, none⟩ = some (.slice a x.ins.length c) ∧ rdRules B w a x.ins
abbrev rdPols (B : Nat) (w : World) (a : Option Addr) (l : List DPol) : Prop := RdSl B w 6 80 ePol a l
theorem RdSl.ext {α : Type} {B B' sz bytes : Nat} {w w' : World} {E : Nat → World → Nat → Nat → α → Prop} {a : Option Addr} {l : List α}
    (h : RdSl B w sz bytes E a l) (hB : B ≤ B') (hE : ∀ b o x, b < B → E B w b o x → E B' w' b o x) : RdSl B' w' sz bytes E a l :=
  ⟨h.1, fun i x hx => let ⟨b, off, e, hb, he⟩ := h.2 i x hx; ⟨b, off, e, by omega, hE _ _ _ hb he⟩⟩
theorem eBlk.ext {B : Nat} {w w' : World} (B' : Nat) (hw : Below B w w') {b o : Nat} {x : DBlk} (hb : b < B) (h : eBlk B w b o x) : eBlk B' w' b o x := by
  unfold eBlk at *; simp only [hw.cell (p := ⟨b, _, none⟩) hb]; exact h
theorem ePod.ext {B : Nat} {w w' : World} (B' : Nat) (hw : Below B w w') {b o : Nat} {x : DPod} (hb : b < B) (h : ePod B w b o x) : ePod B' w' b o x := by
  unfold ePod at *; simp only [hw.cell (p := ⟨b, _, none⟩) hb]; exact h
theorem ePort.ext {B : Nat} {w w' : World} (B' : Nat) (hw : Below B w w') {b o : Nat} {x : DPort} (hb : b < B) (h : ePort B w b o x) : ePort B' w' b o x := by
  unfold ePort at *; simp only [hw.cell (p := ⟨b, _, none⟩) hb]; exact h
theorem rdBlks.ext {B B' : Nat} {w w' : World} (hw : Below B w w') (hB : B ≤ B') {a : Option Addr} {l : List DBlk} (h : rdBlks B w a l) : rdBlks B' w' a l := RdSl.ext h hB fun _ _ _ hb => eBlk.ext _ hw hb
theorem rdPods.ext {B B' : Nat} {w w' : World} (hw : Below B w w') (hB : B ≤ B') {a : Option Addr} {l : List DPod} (h : rdPods B w a l) : rdPods B' w' a l := RdSl.ext h hB fun _ _ _ hb => ePod.ext _ hw hb
theorem rdPorts.ext {B B' : Nat} {w w' : World} (hw : Below B w w') (hB : B ≤ B') {a : Option Addr} {l : List DPort} (h : rdPorts B w a l) : rdPorts B' w' a l := RdSl.ext h hB fun _ _ _ hb => ePort.ext _ hw hb
theorem ePeer.ext {B B' : Nat} {w w' : World} (hw : Below B w w') (hB : B ≤ B') {b o : Nat} {x : DPeer} (hb : b < B) (h : ePeer B w b o x) : ePeer B' w' b o x := by
  unfold ePeer at *; simp only [hw.cell (p := ⟨b, _, none⟩) hb]
  obtain ⟨h0, h1, h2, h3, h4, h5, a, c, h6, h7⟩ := h
  exact ⟨h0, h1, h2, h3, h4, h5, a, c, h6, rdBlks.ext hw hB h7⟩
theorem rdPeers.ext {B B' : Nat} {w w' : World} (hw : Below B w w') (hB : B ≤ B') {a : Option Addr} {l : List DPeer} (h : rdPeers B w a l) : rdPeers B' w' a l := RdSl.ext h hB fun _ _ _ hb => ePeer.ext hw hB hb
theorem eRule.ext {B B' : Nat} {w w' : World} (hw : Below B w w') (hB : B ≤ B') {b o : Nat} {x : DRule} (hb : b < B) (h : eRule B w b o x) : eRule B' w' b o x := by
  unfold eRule at *; simp only [hw.cell (p := ⟨b, _, none⟩) hb]
  obtain ⟨⟨a, c, h0, h1⟩, a', c', h2, h3⟩ := h
  exact ⟨⟨a, c, h0, rdPeers.ext hw hB h1⟩, a', c', h2, rdPorts.ext hw hB h3⟩
theorem rdRules.ext {B B' : Nat} {w w' : World} (hw : Below B w w') (hB : B ≤ B') {a : Option Addr} {l : List DRule} (h : rdRules B w a l) : rdRules B' w' a l := RdSl.ext h hB fun _ _ _ hb => eRule.ext hw hB hb
theorem ePol.ext {B B' : Nat} {w w' : World} (hw : Below B w w') (hB : B ≤ B') {b o : Nat} {x : DPol} (hb : b < B) (h : ePol B w b o x) : ePol B' w' b o x := by
  unfold ePol at *; simp only [hw.cell (p := ⟨b, _, none⟩) hb]
  obtain ⟨h0, h1, h2, h3, ⟨a, c, h4, h5⟩, a', c', h6, h7⟩ := h
  exact ⟨h0, h1, h2, h3, ⟨a, c, h4, rdRules.ext hw hB h5⟩, a', c', h6, rdRules.ext hw hB h7⟩
theorem rdPols.ext {B B' : Nat} {w w' : World} (hw : Below B w w') (hB : B ≤ B') {a : Option Addr} {l : List DPol} (h : rdPols B w a l) : rdPols B' w' a l := RdSl.ext h hB fun _ _ _ hb => ePol.ext hw hB hb
theorem Ext.trans {a b c : World} (h : Below a.heap.size a b) (k : Below b.heap.size b c) : Below a.heap.size a c := h.trans (k.mono h.size)
theorem Ext.alloc {a w : World} (h : Below a.heap.size a w) (o : Obj) : Below a.heap.size a (w.alloc o) := h.alloc h.size o
theorem Ext.drew {a w : World} (h : Below a.heap.size a w) : Below a.heap.size a w.drew := h.drew
theorem Ext.drewN {a w : World} (h : Below a.heap.size a w) (n : Nat) : Below a.heap.size a (w.drewN n) := ⟨h.os, h.tape, h.output, h.size, h.block⟩
theorem bel {B : Nat} {w w' : World} (h : Below B w w' := by repeat (first | exact Below.refl _ _ | assumption | apply Ext.alloc | apply Ext.drewN | apply Ext.drew | refine Ext.trans ?_ (by assumption))) : Below B w w' := h
theorem bcell {W w1 : World} (hb : Below W.heap.size W w1) : (∀ b o, b < W.heap.size → w1.cell? ⟨b, o, none⟩ = W.cell? ⟨b, o, none⟩) ∧ (∀ b o, b < W.heap.size → w1.frozen? ⟨b, o, none⟩ = W.frozen? ⟨b, o, none⟩) :=
  ⟨fun b o h => hb.cell (p := ⟨b, o, none⟩) h, fun b o h => hb.frozen (p := ⟨b, o, none⟩) h⟩
theorem hb_lt {B : Nat} {X w1 : World} (h : Below B X w1) : ∀ i, i < X.heap.size → i < w1.heap.size := fun _ hi => Nat.lt_of_lt_of_le hi h.size
theorem ibeq (a b : Int) : (a == b) = decide (a = b) := by by_cases h : a = b <;> simp [h]
theorem hid {p : Prop} (h : p) : Hid p := h
theorem ret_bool {a b : Bool} (h : a = b) : Ending.returned (.bool a) = .returned (.bool b) := by rw [h]
end Go.Proofs.YtmkjlhplgcifiaaGreat
namespace Go
section
variable {P : Program} {ops : Array Oper} {md : Region.Mode} {C : World → Prop}
theorem wpAny_more {Q : Exit → Act → World → Prop} : ∀ (fuel : Nat) (listed : Array Bool) (a : Act) (w : World), wpAny P md ops Q fuel listed a w → wpAny P md ops Q (fuel + 1) listed a w
  | 0, _, _, _, h => ⟨fun _ => h.2, fun i hi => by rw [h.1] at hi; cases hi⟩
  | fuel + 1, _, _, _, h => ⟨h.1, fun i hi => wpOp_mono (fun a w => wpAny_more fuel _ a w) (h.2 i hi)⟩
theorem wpAny_mores {Q : Exit → Act → World → Prop} (k fuel : Nat) (listed : Array Bool) (a : Act) (w : World) (h : wpAny P md ops Q fuel listed a w) : wpAny P md ops Q (k + fuel) listed a w := by
  induction k with
  | zero => rw [Nat.zero_add]; exact h
  | succ k ih => rw [Nat.succ_add]; exact wpAny_more _ _ _ _ ih
structure TailRel (n N : Nat) (l1 L : Array Bool) : Prop where
  s1 : l1.size = n
  s2 : L.size = N
  lo : ∀ k, k < n → L[k]? = l1[k]?
  hi : ∀ k, n ≤ k → k < N → L[k]? = some false
def onTo (md : Region.Mode) (ops : Array Oper) (j k : Nat) : Bool := ((ops[j]?).map fun o => o.after.any fun e => Region.binds md e && e.on == k).getD false
def tailB (md : Region.Mode) (ops : Array Oper) (n : Nat) : Bool :=
  ((List.range n).all fun k => ((ops[k]?).map fun o => o.guard.isNone && o.after.all fun e => !Region.binds md e || decide (e.on < k)).getD false) &&
  ((List.range n).all fun k => (List.range (n + 1)).any fun j => decide (k < j) && onTo md ops j k) &&
  ((List.range ops.size).all fun j => decide (j ≤ n) || onTo md ops j (j - 1)) && decide (n ≤ ops.size)
def seqB (md : Region.Mode) (ops : Array Oper) : Nat → Nat → Array Bool → Bool
  | 0, _, listed => Region.ready md ops listed == []
  | fuel + 1, k, listed => Region.ready md ops listed == [k] && seqB md ops fuel (k + 1) (listed.setIfInBounds k true)
theorem wpAny_seq {Q : Exit → Act → World → Prop} : ∀ (l : List Oper) (k : Nat) (listed : Array Bool) (a : Act) (w : World), (∀ j, l[j]? = ops[k + j]?) → seqB md ops l.length k listed = true → wpList P ops Q l a w → wpAny P md ops Q l.length listed a w
  | [], _, _, _, _, _, hB, h => ⟨by simpa [seqB] using hB, h⟩
  | o :: l, k, listed, a, w, hl, hB, h => by
    have h0 : ops[k]? = some o := by simpa using (hl 0).symm
    simp only [List.length_cons, seqB, Bool.and_eq_true, beq_iff_eq] at hB
    refine ⟨fun h' => (by rw [hB.1] at h'; cases h'), fun i hi => ?_⟩
    rw [hB.1, List.mem_singleton] at hi
    subst hi
    have ih := wpAny_seq (Q := Q) l (i + 1) (listed.setIfInBounds i true)
    have hl' : ∀ j, l[j]? = ops[i + 1 + j]? := fun j => by have := hl (j + 1); simpa [Nat.add_assoc, Nat.add_comm 1 j] using this
    unfold wpOp
    simp only [h0]
    unfold wpList at h
    split
    · rename_i hw
      simp only [hw, if_true] at h
      exact h.elim (fun h => .inl (Oper.wp_mono (fun a w => ih a w hl' hB.2) h)) .inr
    · rename_i hw
      simp only [hw] at h
      exact ih _ _ hl' hB.2 h
theorem getD_of_some {L : Array Bool} {k : Nat} {b : Bool} (h : L[k]? = some b) (d : Bool) : L.getD k d = b := by simp [h]
theorem some_of_getD {L : Array Bool} {k : Nat} (h : L.getD k false = true) : L[k]? = some true := by
  rw [Array.getD_eq_getD_getElem?] at h
  cases hk : L[k]? with
  | none => rw [hk] at h; cases h
  | some b => rw [hk] at h; simp at h; rw [h]
theorem false_of_getD {L : Array Bool} {k : Nat} (h : L.getD k true = false) : L[k]? = some false := by
  rw [Array.getD_eq_getD_getElem?] at h
  cases hk : L[k]? with
  | none => rw [hk] at h; cases h
  | some b => rw [hk] at h; simp at h; rw [h]
theorem onTo_spec {j k : Nat} (h : onTo md ops j k = true) : ∃ o, ops[j]? = some o ∧ ∃ e ∈ o.after, Region.binds md e = true ∧ e.on = k := by
  unfold onTo at h
  cases ho : ops[j]? with
  | none => rw [ho] at h; cases h
  | some o =>
    rw [ho] at h
    simp only [Option.map_some, Option.getD_some, Array.any_eq_true', Bool.and_eq_true, beq_iff_eq] at h
    obtain ⟨e, he, hb, hk⟩ := h
    exact ⟨o, rfl, e, he, hb, hk⟩
theorem wpAny_of_first {Q1 : Act → Prop} {Q' : Exit → Act → World → Prop} {n m : Nat} (hT : tailB md ops n = true) (Lt : Array Bool) (hLt : TailRel n ops.size (Array.replicate n true) Lt)
    (htail : ∀ a w, C w → Q1 a → wpAny P md ops Q' m Lt a w) :
    ∀ (fuel : Nat) (l1 L : Array Bool) (a : Act) (w : World), TailRel n ops.size l1 L → (∀ k o, k < n → ops[k]? = some o → l1[k]? = some true → ∀ e ∈ o.after, Region.binds md e = true → l1[e.on]? = some true) → C w →
      wpAnyQ P md (ops.extract 0 n) C Q1 fuel l1 a → wpAny P md ops Q' (fuel + m) L a w := by
  simp only [tailB, Bool.and_eq_true, List.all_eq_true, List.mem_range, List.any_eq_true, decide_eq_true_eq, Bool.or_eq_true] at hT
  obtain ⟨⟨⟨h1, h2⟩, h3⟩, h4⟩ := hT
  have hx : ∀ k, k < n → (ops.extract 0 n)[k]? = ops[k]? := fun k hk => by
    rw [Array.getElem?_extract]; simp; omega
  have hback : ∀ k o, k < n → ops[k]? = some o → o.guard = none ∧ ∀ e ∈ o.after, Region.binds md e = true → e.on < k := fun k o hk ho => by
    have := h1 k hk
    simp only [ho, Option.map_some, Option.getD_some, Bool.and_eq_true, Option.isNone_iff_eq_none, Array.all_eq_true_iff_forall_mem, Bool.or_eq_true, decide_eq_true_eq] at this
    exact ⟨this.1, fun e he hb => (this.2 e he).resolve_left (by simp [hb])⟩
  -- none is ready: all have come up
  have hdone : ∀ l1 : Array Bool, l1.size = n → Region.ready md (ops.extract 0 n) l1 = [] → l1 = Array.replicate n true := fun l1 hs hr => by
    have hall : ∀ k, k < n → l1[k]? = some true := by
      intro k
      induction k using Nat.strongRecOn with
      | ind k ih =>
        intro hk
        cases hb : l1[k]? with
        | none => rw [Array.getElem?_eq_none_iff] at hb; omega
        | some b =>
          cases b with
          | true => rfl
          | false =>
            obtain ⟨o, ho⟩ : ∃ o, ops[k]? = some o := ⟨ops[k], by simp⟩
            have : k ∈ Region.ready md (ops.extract 0 n) l1 := mem_ready.2 ⟨getD_of_some hb _, o, by rw [hx k hk]; exact ho, fun e he hbd => getD_of_some (ih e.on ((hback k o hk ho).2 e he hbd) (by have := (hback k o hk ho).2 e he hbd; omega)) _⟩
            rw [hr] at this; cases this
    apply Array.ext_getElem?
    intro k
    rcases Nat.lt_or_ge k n with h | h
    · rw [hall k h]; simp [h]
    · rw [Array.getElem?_eq_none (by omega), Array.getElem?_eq_none (by simp; omega)]
  have hLeq : ∀ l1 L : Array Bool, TailRel n ops.size l1 L → l1 = Array.replicate n true → L = Lt := fun l1 L hR he => by
    subst he
    apply Array.ext_getElem?
    intro k
    rcases Nat.lt_or_ge k n with h | h
    · rw [hR.lo k h, hLt.lo k h]
    · rcases Nat.lt_or_ge k ops.size with h' | h'
      · rw [hR.hi k h h', hLt.hi k h h']
      · rw [Array.getElem?_eq_none (by rw [hR.s2]; exact h'), Array.getElem?_eq_none (by rw [hLt.s2]; exact h')]
  -- a later one that is ready: all have come up
  have hlate : ∀ (l1 L : Array Bool), TailRel n ops.size l1 L → (∀ k o, k < n → ops[k]? = some o → l1[k]? = some true → ∀ e ∈ o.after, Region.binds md e = true → l1[e.on]? = some true) →
      ∀ j ∈ Region.ready md ops L, n ≤ j → l1 = Array.replicate n true := fun l1 L hR hcl j hj hn => by
    obtain ⟨hj0, oj, hoj, hja⟩ := mem_ready.1 hj
    have hjs : j < ops.size := (Array.getElem?_eq_some_iff.1 hoj).1
    have hjn : j = n := by
      rcases h3 j hjs with h | h
      · omega
      · rcases Nat.lt_or_ge n j with h' | h'
        · obtain ⟨o, ho, e, he, hb, hon⟩ := onTo_spec h
          rw [hoj] at ho; cases ho
          have h5 := some_of_getD (hja e he hb)
          rw [hon, hR.hi (j - 1) (by omega) (by omega)] at h5
          cases h5
        · omega
    subst hjn
    have hall : ∀ d k, k + d = j → d ≠ 0 → l1[k]? = some true := by
      intro d
      induction d using Nat.strongRecOn with
      | ind d ih =>
        intro k hkd hd0
        obtain ⟨i, hi, hki, hon⟩ := h2 k (by omega)
        obtain ⟨o, ho, e, he, hb, hk⟩ := onTo_spec hon
        rcases Nat.lt_or_ge i j with hlt | hge
        · have := hcl i o hlt ho (ih (j - i) (by omega) i (by omega) (by omega)) e he hb
          rwa [hk] at this
        · have : i = j := by omega
          subst this
          rw [hoj] at ho; cases ho
          have h5 := some_of_getD (hja e he hb)
          rw [hk, hR.lo k (by omega)] at h5
          exact h5
    apply Array.ext_getElem?
    intro k
    rcases Nat.lt_or_ge k j with h | h
    · rw [hall (j - k) k (by omega) (by omega)]; simp [h]
    · rw [Array.getElem?_eq_none (by rw [hR.s1]; exact h), Array.getElem?_eq_none (by simp; omega)]
  intro fuel
  induction fuel with
  | zero =>
    intro l1 L a w hR hcl hC h
    rw [Nat.zero_add, hLeq l1 L hR (hdone l1 hR.s1 h.1)]
    exact htail a w hC h.2
  | succ fuel ih =>
    intro l1 L a w hR hcl hC h
    by_cases he : l1 = Array.replicate n true
    · have hr : Region.ready md (ops.extract 0 n) l1 = [] := by
        apply List.eq_nil_iff_forall_not_mem.2
        intro k hk
        obtain ⟨h0, o, ho, _⟩ := mem_ready.1 hk
        have hkn : k < n := by have := (Array.getElem?_eq_some_iff.1 ho).1; simp at this; omega
        have := false_of_getD h0
        rw [he] at this
        simp [hkn] at this
      rw [hLeq l1 L hR he]
      exact wpAny_mores _ _ _ _ _ (htail a w hC (h.1 hr))
    · rw [Nat.succ_add]
      refine ⟨fun hr => ?_, fun i hi => ?_⟩
      · exfalso
        refine he (hdone l1 hR.s1 ?_)
        apply List.eq_nil_iff_forall_not_mem.2
        intro k hk
        obtain ⟨h0, o, ho, hal⟩ := mem_ready.1 hk
        have hkn : k < n := by have := (Array.getElem?_eq_some_iff.1 ho).1; simp at this; omega
        rw [hx k hkn] at ho
        have : k ∈ Region.ready md ops L := mem_ready.2 ⟨getD_of_some (by rw [hR.lo k hkn]; exact false_of_getD h0) _, o, ho, fun e he hb => getD_of_some (by rw [hR.lo e.on (by have := (hback k o hkn ho).2 e he hb; omega)]; exact some_of_getD (hal e he hb)) _⟩
        rw [hr] at this; cases this
      · have hin : i < n := by
          rcases Nat.lt_or_ge i n with h' | h'
          · exact h'
          · exact absurd (hlate l1 L hR hcl i hi h') he
        obtain ⟨h0, o, ho, hal⟩ := mem_ready.1 hi
        have hi1 : i ∈ Region.ready md (ops.extract 0 n) l1 := mem_ready.2 ⟨getD_of_some (by rw [← hR.lo i hin]; exact false_of_getD h0) _, o, by rw [hx i hin]; exact ho, fun e he hb => getD_of_some (by rw [← hR.lo e.on (by have := (hback i o hin ho).2 e he hb; omega)]; exact some_of_getD (hal e he hb)) _⟩
        have hR' : TailRel n ops.size (l1.setIfInBounds i true) (L.setIfInBounds i true) := by
          refine ⟨by simp [hR.s1], by simp [hR.s2], fun k hk => ?_, fun k hk hk' => ?_⟩
          · rw [Array.getElem?_setIfInBounds, Array.getElem?_setIfInBounds, hR.lo k hk, hR.s1, hR.s2]
            by_cases hik : i = k
            · subst hik; simp [hin, Nat.lt_of_lt_of_le hin h4]
            · simp [hik]
          · rw [Array.getElem?_setIfInBounds_ne (by omega)]; exact hR.hi k hk hk'
        have hcl' : ∀ k o, k < n → ops[k]? = some o → (l1.setIfInBounds i true)[k]? = some true → ∀ e ∈ o.after, Region.binds md e = true → (l1.setIfInBounds i true)[e.on]? = some true := by
          intro k o' hk ho' hkl e he' hb
          have hor : l1[e.on]? = some true := by
            by_cases hik : i = k
            · subst hik
              rw [ho] at ho'; cases ho'
              have h5 := some_of_getD (hal e he' hb)
              rwa [hR.lo e.on (by have := (hback i o hin ho).2 e he' hb; omega)] at h5
            · rw [Array.getElem?_setIfInBounds_ne hik] at hkl
              exact hcl k o' hk ho' hkl e he' hb
          by_cases hie : i = e.on
          · subst hie; rw [Array.getElem?_setIfInBounds_self]; simp [hR.s1, hin]
          · rw [Array.getElem?_setIfInBounds_ne hie]; exact hor
        have hq := wpOp_of_qOp (Q' := Q') hC (fun a' w' hw' h' => ih _ _ a' w' hR' hcl' hw' h') (h.2 i hi1)
        unfold wpOp at hq ⊢
        rw [hx i hin] at hq
        simp only [ho] at hq ⊢
        have hg := (hback i o hin ho).1
        simpa [Region.wanted, hg] using hq
theorem wp_region_quiet_tail {id : Nat} {Q : Exit → Act → World → Prop} {a : Act} {w : World} {l : List Oper} (n : Nat) (hm : P.follows .mixedOrders = true) (hB : Region.lexB .any (l.take n).toArray = true)
    (hT : (tailB .any l.toArray n && seqB .any l.toArray (l.length - n) n ((Array.replicate n true) ++ (Array.replicate (l.length - n) false))) = true) (hC : C { w with drawn := w.drawn + 1 })
    (h : wpQuiet P (l.take n).toArray C (fun a' => ∀ w', C w' → wpList P l.toArray Q (l.drop n) a' w') (l.take n) a) : (Code.region id l.toArray true).wp P Q a w := by
  rw [Bool.and_eq_true] at hT
  obtain ⟨hT, hS⟩ := hT
  have hn : n ≤ l.length := by simp only [tailB, Bool.and_eq_true, decide_eq_true_eq] at hT; simpa using hT.2
  refine wp_region_any hm ?_
  have hx : l.toArray.extract 0 n = (l.take n).toArray := by simp
  simp only [Region.lexB, Bool.and_eq_true] at hB
  have hq := wpAnyQ_lex (P := P) (C := C) (md := .any) hB.1 (l.take n) 0 (Array.replicate (l.take n).toArray.size false) a (by simp) (by simpa using hB.2) h
  have hlen : (l.take n).length = n := by rw [List.length_take]; omega
  have e := wpAny_of_first (P := P) (Q' := Q) (md := .any) (ops := l.toArray) (C := C) (Q1 := fun a' => ∀ w', C w' → wpList P l.toArray Q (l.drop n) a' w') (n := n) (m := l.length - n) hT (Array.replicate n true ++ Array.replicate (l.length - n) false)
    ⟨by simp, by simp; omega, fun k hk => by rw [Array.getElem?_append_left (by simpa using hk)], fun k hk hk' => by
      rw [Array.getElem?_append_right (by simpa using hk), Array.getElem?_replicate, if_pos (by simp at hk' ⊢; omega)]⟩
    (fun a' w' hw' hQ1 => by
      have := wpAny_seq (P := P) (Q := Q) (md := .any) (ops := l.toArray) (l.drop n) n (Array.replicate n true ++ Array.replicate (l.length - n) false) a' w' (fun j => by simp) (by rw [List.length_drop]; exact hS) (hQ1 w' hw')
      rwa [List.length_drop] at this)
    n (Array.replicate n false) (Array.replicate l.toArray.size false) a { w with drawn := w.drawn + 1 }
    ⟨by simp, by simp, fun k hk => by rw [Array.getElem?_replicate, Array.getElem?_replicate, if_pos (by simp; omega), if_pos hk], fun k hk hk' => by rw [Array.getElem?_replicate, if_pos hk']⟩
    (fun k o hk _ hkl => by simp [hk] at hkl)
    hC (by rw [hx]; simpa [hlen] using hq)
  have hs : n + (l.length - n) = l.toArray.size := by simp; omega
  rw [hs] at e
  exact e
end
end Go
namespace Go
def World.grow (w : World) (u : Nat → Array Obj) : World := { w with heap := w.heap ++ u 0, drawn := (u 1).size }
theorem World.heap_grow (w : World) (u : Nat → Array Obj) (k : Nat) (h : k < w.heap.size) : (w.grow u).heap[k]? = w.heap[k]? := by
  simp [World.grow, Array.getElem?_append, h]
theorem World.cell?_grow (w : World) (u : Nat → Array Obj) (a : Addr) (h : (w.cell? a).isSome = true) : (w.grow u).cell? a = w.cell? a := by
  have hb : a.block < w.heap.size := by
    rcases Nat.lt_or_ge a.block w.heap.size with h' | h'
    · exact h'
    · simp [World.cell?, Array.getElem?_eq_none h'] at h
  simp only [World.cell?, World.heap_grow w u _ hb]
attribute [local simp] World.cell?_grow
attribute [local go_sem] World.cell?_grow
theorem World.below_grow (w : World) (u : Nat → Array Obj) : RowKit.Below w.heap.size w (w.grow u) :=
  ⟨rfl, rfl, rfl, by simp [World.grow], fun k hk => World.heap_grow w u k hk⟩
theorem World.grow_of_below {w w' : World} (h : RowKit.Below w.heap.size w w') : ∃ u, w' = w.grow u := by
  refine ⟨fun i => if i = 0 then w'.heap.extract w.heap.size else Array.replicate w'.drawn default, ?_⟩
  obtain ⟨hp, tp, dr, os, ou⟩ := w'
  obtain ⟨h1, h2, h3, h4, h5⟩ := h
  simp only at h1 h2 h3 h4 h5
  subst h1 h2 h3
  have : hp = w.heap ++ hp.extract w.heap.size := by
    apply Array.ext_getElem?
    intro i
    rw [Array.getElem?_append]
    split
    · rename_i hi; exact h5 i hi
    · rename_i hi
      simp only [Array.getElem?_extract]
      rcases Nat.lt_or_ge i hp.size with h' | h'
      · rw [if_pos (by simp; omega)]; congr 1; omega
      · rw [if_neg (by simp; omega), Array.getElem?_eq_none h']
  simp only [World.grow, if_true, Nat.one_ne_zero, if_false, Array.size_replicate]
  rw [← this]
theorem wp_region_grow {P : Program} {id : Nat} {Q : Exit → Act → World → Prop} {a : Act} {w : World} {l : List Oper} (hm : P.follows .mixedOrders = true) (hB : Region.lexB .any l.toArray = true)
    (h : wpQuiet P l.toArray (fun w' => ∃ u, w' = w.grow u) (fun a' => ∀ w', RowKit.Below w.heap.size w w' → Q .normal a' w') l a) : (Code.region id l.toArray true).wp P Q a w := by
  refine wp_region_quiet (C := fun w' => ∃ u, w' = w.grow u) hm hB (World.grow_of_below ⟨rfl, rfl, rfl, Nat.le_refl _, fun _ _ => rfl⟩) ?_
  have e : (fun a' => ∀ w', RowKit.Below w.heap.size w w' → Q .normal a' w') = fun a' => ∀ w', (∃ u, w' = w.grow u) → Q .normal a' w' := by
    funext a'
    refine propext ⟨fun H w' ⟨u, hu⟩ => hu ▸ H _ (World.below_grow w u), fun H w' hb => H w' (World.grow_of_below hb)⟩
  rw [← e]
  simpa using h
theorem Calls.grow_of {P : Program} {f : FuncId} {args : Array Value} {w : World} {u : Nat → Array Obj} {v : Value}
    (h : Calls P f args (w.grow u) fun e w' => e = .returned v ∧ RowKit.Below (w.grow u).heap.size (w.grow u) w') : Calls P f args (w.grow u) fun e w'' => e = .returned v ∧ ∃ u', w'' = w.grow u' :=
  h.mono fun _ _ ⟨he, hm⟩ => ⟨he, World.grow_of_below ((World.below_grow w u).trans (hm.mono (World.below_grow w u).size))⟩
theorem Calls.grow_of_same {P : Program} {f : FuncId} {args : Array Value} {w : World} {u : Nat → Array Obj} {v : Value}
    (h : Calls P f args (w.grow u) fun e w' => e = .returned v ∧ w' = w.grow u) : Calls P f args (w.grow u) fun e w'' => e = .returned v ∧ ∃ u', w'' = w.grow u' :=
  h.mono fun _ _ ⟨he, hm⟩ => ⟨he, u, hm⟩
theorem Calls.grow_bool {P : Program} {f : FuncId} {args : Array Value} {w : World} {u : Nat → Array Obj} {b b' : Bool} (hb : b = b')
    (h : Calls P f args (w.grow u) fun e w' => e = .returned (.bool b) ∧ RowKit.Below (w.grow u).heap.size (w.grow u) w') : Calls P f args (w.grow u) fun e w'' => e = .returned (.bool b') ∧ ∃ u', w'' = w.grow u' := by
  subst hb; exact Calls.grow_of h
theorem Calls.grow_bool_same {P : Program} {f : FuncId} {args : Array Value} {w : World} {u : Nat → Array Obj} {b b' : Bool} (hb : b = b')
    (h : Calls P f args (w.grow u) fun e w' => e = .returned (.bool b) ∧ w' = w.grow u) : Calls P f args (w.grow u) fun e w'' => e = .returned (.bool b') ∧ ∃ u', w'' = w.grow u' := by
  subst hb; exact Calls.grow_of_same h
end Go
namespace Go.Proofs.YtmkjlhplgcifiaaGreat
open Go.ChangeShapes Go.WideShapes Go.ChangeAt Go.RowKit
set_option linter.unusedVariables false
attribute [local simp] World.cell?_grow
attribute [local go_sem] World.cell?_grow
theorem takes_7 {α : Type} (a0 a1 a2 a3 a4 a5 a6 : α) (r : List α) : (a0 :: a1 :: a2 :: a3 :: a4 :: a5 :: a6 :: r).take 7 = [a0, a1, a2, a3, a4, a5, a6] := rfl
theorem drops_7 {α : Type} (a0 a1 a2 a3 a4 a5 a6 : α) (r : List α) : (a0 :: a1 :: a2 :: a3 :: a4 :: a5 :: a6 :: r).drop 7 = r := rfl
theorem takes_8 {α : Type} (a0 a1 a2 a3 a4 a5 a6 a7 : α) (r : List α) : (a0 :: a1 :: a2 :: a3 :: a4 :: a5 :: a6 :: a7 :: r).take 8 = [a0, a1, a2, a3, a4, a5, a6, a7] := rfl
theorem drops_8 {α : Type} (a0 a1 a2 a3 a4 a5 a6 a7 : α) (r : List α) : (a0 :: a1 :: a2 :: a3 :: a4 :: a5 :: a6 :: a7 :: r).drop 8 = r := rfl
theorem takes_11 {α : Type} (a0 a1 a2 a3 a4 a5 a6 a7 a8 a9 b0 : α) (r : List α) : (a0 :: a1 :: a2 :: a3 :: a4 :: a5 :: a6 :: a7 :: a8 :: a9 :: b0 :: r).take 11 = [a0, a1, a2, a3, a4, a5, a6, a7, a8, a9, b0] := rfl
theorem drops_11 {α : Type} (a0 a1 a2 a3 a4 a5 a6 a7 a8 a9 b0 : α) (r : List α) : (a0 :: a1 :: a2 :: a3 :: a4 :: a5 :: a6 :: a7 :: a8 :: a9 :: b0 :: r).drop 11 = r := rfl
end Go.Proofs.YtmkjlhplgcifiaaGreat
