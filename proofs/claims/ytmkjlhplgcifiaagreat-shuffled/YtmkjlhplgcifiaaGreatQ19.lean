/-
  A list that is being built by appending, of elements that hold lists of their own.
  palisadekeep: rules: right ones of raw ones.
  slices.Clone at pods, ports and blocks: a list of its own with the same elements.
  Copies that share no memory: peers, rules, policies (list.Map with peer.Copy, policy.copyRule, policy.Copy).
-/
import Derived.Test.YtmkjlhplgcifiaaGreatQ14
import Derived.Test.YtmkjlhplgcifiaaGreatQ18
import Derived.Test.YtmkjlhplgcifiaaGreatQ11
import Derived.Test.YtmkjlhplgcifiaaGreatQ03
import Derived.Test.YtmkjlhplgcifiaaGreatQ08
import Derived.Deep.RegionHeld3
import Derived.Deep.CutRange
import Derived.Deep.DeepCutAuto
namespace Go.Proofs.YtmkjlhplgcifiaaGreat
open Go.ChangeShapes Go.WideShapes Go.ChangeAt Go.RowKit
attribute [local simp] World.cell?_grow
attribute [local go_sem] World.cell?_grow
attribute [local go_sem] eqg_blk std_blk eqg_pod std_pod eqg_sel std_sel eqg_prt std_prt
attribute [local go_sem ↓] eql_blk eql_sel neq_sel eql_prt eql_pod
attribute [local go_sem ↓] met_in1 met_in2 met_re1 met_re2
set_option linter.unusedVariables false
set_option linter.unusedSimpArgs false

section
variable {X D : Type} {e : TypeId} {k : Nat} {enc : X → List Value} {N : Nat → World → X → Prop}
/-- v is a list of a base's own with the elements ys; what they hold lies elsewhere above the base -/
def Up (e : TypeId) (k : Nat) (enc : X → List Value) (N : Nat → World → X → Prop) (base : Nat) (w : World) (v : Value) (ys : List X) : Prop :=
  w.ownsRow base e k v ys.length (ys.flatMap enc) ∧ ∀ y ∈ ys, N w.heap.size (hide w (lowOr base v)) y
def Mono (N : Nat → World → X → Prop) : Prop := ∀ (B B' : Nat) (w w' : World) (x : X), Sub w w' → B ≤ B' → N B w x → N B' w' x
theorem Up.nil (base : Nat) (w : World) : Up e k enc N base w (.slice none 0 0) [] := ⟨World.ownsRow_nil _ _ _ _, fun y hy => by simp at hy⟩
theorem Up.grow (hN : Mono N) {base : Nat} {w w' : World} {v : Value} {ys : List X} (h : Up e k enc N base w v ys) (hb : Below w.heap.size w w') : Up e k enc N base w' v ys :=
  ⟨own_to h.1 hb, fun y hy => hN _ _ _ _ y (Sub.grow hb) hb.size (h.2 y hy)⟩
theorem Up.set (hN : Mono N) {base : Nat} {w : World} {v : Value} {ys : List X} (h : Up e k enc N base w v ys) (p : Addr) (u : Value) (hp : p.block < base) : Up e k enc N base (w.setCell p u) v ys :=
  ⟨row_set h.1 p u hp, fun y hy => hN _ _ _ _ y (Sub.set p u (by simp [lowOr, hp])) (by simp) (h.2 y hy)⟩
theorem Up.lt {base : Nat} {w : World} {v : Value} {ys : List X} (h : Up e k enc N base w v ys) : ∀ g, v.ownBlock = some g → base ≤ g ∧ g < w.heap.size := fun g hg => h.1.lt g hg
/-- an element more: what it holds lies above m, and the list below -/
theorem Up.app (hN : Mono N) {base m : Nat} {w w' : World} {v v' : Value} {ys : List X} {y : X} (h : Up e k enc N base w v ys) (hm : base ≤ m) (hv : ∀ g, v.ownBlock = some g → g < m)
    (hy : N w.heap.size (hide w (low m)) y) (ho : w'.ownsRow base e k v' (ys.length + 1) (ys.flatMap enc ++ enc y)) (hg : w.grownBy w' v.ownBlock) (ha : v'.ownBlock = v.ownBlock ∨ v'.ownBlock = some w.heap.size) :
    Up e k enc N base w' v' (ys ++ [y]) := by
  refine ⟨?_, fun z hz => ?_⟩
  · rw [List.length_append, List.flatMap_append]
    simpa using ho
  · rcases List.mem_append.1 hz with hz | hz
    · exact hN _ _ _ _ z (Sub.app hg ha) hg.size (h.2 z hz)
    · simp at hz
      subst hz
      exact hN _ _ _ _ z ((Sub.up hm hv).trans (Sub.app hg ha)) hg.size hy
theorem Up.done (hN : Mono N) {bytes base : Nat} {E : Nat → World → Nat → Nat → D → Prop} {d : X → D} {w : World} {v : Value} {ys : List X} (hk : ∀ x, (enc x).length = k) (hp : 0 < k) (h : Up e k enc N base w v ys) (hy : ys.length * bytes ≤ 140737488351232)
    (hE : ∀ (B : Nat) (w : World) (b o : Nat) (y : X), N B w y → (∀ j u, (enc y)[j]? = some u → w.cell? ⟨b, o + j, none⟩ = some u) → E B w b o (d y)) :
    ∃ a c, v = .slice a (ys.map d).length c ∧ (ys.map d).length ≤ c ∧ RdSl w.heap.size (hide w (low base)) k bytes E a (ys.map d) := by
  have ho : (hide w (low base)).ownsRow base e k v ys.length (ys.flatMap enc) := own_stay h.1 fun g hg => hide_block _ _ _ (low_false.2 (h.lt g hg).1)
  obtain ⟨a, c, e1, e2, e3⟩ := own_rd (E := fun B w b o y => E B w b o (d y)) (bytes := bytes) hk ho hp hy fun b o x hx hb hc => by
    rw [hide_size] at hb ⊢
    exact hE _ _ _ _ x (hN _ _ _ _ x Sub.off (Nat.le_refl _) (h.2 x hx)) hc
  rw [hide_size] at e3
  refine ⟨a, c, by rw [List.length_map]; exact e1, by rw [List.length_map]; exact e2, by rw [List.length_map]; exact e3.1, fun i x hx => ?_⟩
  rw [List.getElem?_map] at hx
  cases hi : ys[i]? with
  | none => rw [hi] at hx; cases hx
  | some y =>
    rw [hi] at hx
    cases hx
    exact e3.2 i y hi
end

theorem wp_append_at {P : Program} (w : World) {o : Oper} {a : Act} {K : Act → World → Prop} {Q : Exit → Act → World → Prop} (s x : Operand) (t : TypeId)
    (ho : o.op = .call { callee := .builtin .append, args := #[s, x], argTypes := #[t, t] }) (base : Nat) (e : TypeId) (i : TypeInfo) (z : Value) (size bytes : Nat) (ht : P.underlying t = some (.slice e)) (hi : P.info? e = some i) (hz : i.zero = some z)
    (hsize : i.size = size) (hby : i.bytes = bytes) (hzs : z.cells.size = size) (hsz : 0 < size) (v : Value) (n : Nat) (xs : List Value) (hs : a.eval s = v) (hown : w.ownsRow base e size v n xs)
    (ad : Addr) (m c : Nat) (news : List Value) (hx : a.eval x = .slice (some ad) m c) (hl : news.length = m * size) (hnews : ∀ j u, news[j]? = some u → w.cell? (ad.add j) = some u) (h1 : ∀ u ∈ news, u.oneCell' = true)
    (h63 : n + m ≤ maxLen) (hbytes : (n + m) * bytes ≤ 140737488355328) (hbase : base ≤ w.heap.size)
    (h : ∀ v' w', w'.ownsRow base e size v' (n + m) (xs ++ news) → w.grownBy w' v.ownBlock → (v'.ownBlock = v.ownBlock ∨ v'.ownBlock = some w.heap.size) → K (a.put o.dst v') w') : o.wp P a w K Q := by
  obtain ⟨v', w', hr, h2, h3, h4, h5⟩ := run_append_own_at (P := P) w base t o.type e i z size bytes ht hi hz hsize hby hzs hsz v n xs hown ad m c news hl hnews h1 h63 hbytes hbase
  unfold Oper.wp execOp
  simp only [ho, resolve, invoke, builtin, Sem.run_bind, Sem.run_pure, Result.andThen_ok, List.map_toArray, List.map_cons, List.map_nil, hs, hx, hr]
  exact h v' w' h2 h3 h5
theorem step_append_at {P : Program} (w : World) {ops : Array Oper} {o : Oper} {a : Act} {K : Act → World → Prop} {Q : Exit → Act → World → Prop} {E : Prop} (hgd : o.guard = none) (s x : Operand) (t : TypeId)
    (ho : o.op = .call { callee := .builtin .append, args := #[s, x], argTypes := #[t, t] }) (base : Nat) (e : TypeId) (i : TypeInfo) (z : Value) (size bytes : Nat) (ht : P.underlying t = some (.slice e)) (hi : P.info? e = some i) (hz : i.zero = some z)
    (hsize : i.size = size) (hby : i.bytes = bytes) (hzs : z.cells.size = size) (hsz : 0 < size) (v : Value) (n : Nat) (xs : List Value) (hs : a.eval s = v) (hown : w.ownsRow base e size v n xs)
    (ad : Addr) (m c : Nat) (news : List Value) (hx : a.eval x = .slice (some ad) m c) (hl : news.length = m * size) (hnews : ∀ j u, news[j]? = some u → w.cell? (ad.add j) = some u) (h1 : ∀ u ∈ news, u.oneCell' = true)
    (h63 : n + m ≤ maxLen) (hbytes : (n + m) * bytes ≤ 140737488355328) (hbase : base ≤ w.heap.size)
    (h : ∀ v' w', w'.ownsRow base e size v' (n + m) (xs ++ news) → w.grownBy w' v.ownBlock → (v'.ownBlock = v.ownBlock ∨ v'.ownBlock = some w.heap.size) → K (a.put o.dst v') w') :
    if Region.wanted o (yielded ops a.tmps) = true then Oper.wp P o a w K Q else E := by
  have hw : Region.wanted o (yielded ops a.tmps) = true := by simp [Region.wanted, hgd]
  rw [if_pos hw]
  obtain ⟨v', w', hr, h2, h3, h4, h5⟩ := run_append_own_at (P := P) w base t o.type e i z size bytes ht hi hz hsize hby hzs hsz v n xs hown ad m c news hl hnews h1 h63 hbytes hbase
  unfold Oper.wp execOp
  simp only [ho, resolve, invoke, builtin, Sem.run_bind, Sem.run_pure, Result.andThen_ok, List.map_toArray, List.map_cons, List.map_nil, hs, hx, hr]
  exact h v' w' h2 h3 h5
end Go.Proofs.YtmkjlhplgcifiaaGreat
namespace Go.Proofs.YtmkjlhplgcifiaaGreat
open Go.ChangeShapes Go.WideShapes Go.ChangeAt Go.RowKit
attribute [local simp] World.cell?_grow
attribute [local go_sem] World.cell?_grow
attribute [local simp] World.cell?_alloc_there
attribute [local go_sem] World.cell?_alloc_there
attribute [local go_sem] eqg_blk std_blk eqg_pod std_pod eqg_sel std_sel eqg_prt std_prt
attribute [local go_sem ↓] eql_blk eql_sel neq_sel eql_prt eql_pod
attribute [local go_sem ↓] met_in1 met_in2 met_re1 met_re2
attribute [local go_sem ↓] met_has1 met_has2
attribute [local go_sem ↓] met_bl1 met_bl2
set_option linter.unusedVariables false
set_option linter.unusedSimpArgs false

def iBlk (b : DBlk) : Prop := i64 b.base ∧ i64 b.bits
def iPeer (p : DPeer) : Prop := i64 p.kind ∧ i64 p.need ∧ i64 p.ban ∧ i64 p.spaces ∧ i64 p.base ∧ i64 p.bits ∧ ∀ b ∈ p.exc, iBlk b
def iPort (p : DPort) : Prop := i64 p.proto ∧ i64 p.lo ∧ i64 p.hi
def iRule (r : DRule) : Prop := (∀ p ∈ r.peers, iPeer p) ∧ ∀ p ∈ r.ports, iPort p
/-- right things of raw ones -/
def mkPeer (p : DPeer) : DPeer := if pk p.kind 2 = 1 then ⟨1, pk p.need 256, pk p.ban 256, pk p.spaces 16, 0, 0, []⟩ else ⟨2, 0, 0, 0, (mkBlk ⟨p.base, p.bits⟩).base, (mkBlk ⟨p.base, p.bits⟩).bits, (p.exc.take 2).map mkBlk⟩
def mkPort (p : DPort) : DPort := if pk p.hi 65536 < pk p.lo 65536 then ⟨pk p.proto 3, pk p.hi 65536, pk p.lo 65536⟩ else ⟨pk p.proto 3, pk p.lo 65536, pk p.hi 65536⟩
def mkRule (r : DRule) : DRule := ⟨(r.peers.take 2).map mkPeer, (r.ports.take 2).map mkPort⟩
def mkRules (l : List DRule) : List DRule := (l.take 2).map mkRule

theorem mkPort_ok (p : DPort) : prtOk (mkPort p) = true := by
  have h1 := pk_in (c := p.proto) (n := 3) (by decide)
  have h2 := pk_in (c := p.lo) (n := 65536) (by decide)
  have h3 := pk_in (c := p.hi) (n := 65536) (by decide)
  unfold mkPort
  split
  · simp only [prtOk, btw, Bool.and_eq_true, decide_eq_true_eq]; omega
  · simp only [prtOk, btw, Bool.and_eq_true, decide_eq_true_eq]; omega
theorem mkPeer_ok (p : DPeer) : peerOk (mkPeer p) = true := by
  have h1 := pk_in (c := p.need) (n := 256) (by decide)
  have h2 := pk_in (c := p.ban) (n := 256) (by decide)
  have h3 := pk_in (c := p.spaces) (n := 16) (by decide)
  unfold mkPeer
  split
  · have e1 : pk p.need 256 ≤ 255 := by omega
    have e2 : pk p.ban 256 ≤ 255 := by omega
    have e3 : pk p.spaces 16 ≤ 15 := by omega
    simp [peerOk, selOk, btw, h1, h2, h3, e1, e2, e3]
  · have hb : blkOk ⟨(mkBlk ⟨p.base, p.bits⟩).base, (mkBlk ⟨p.base, p.bits⟩).bits⟩ = true := mkBlk_ok ⟨p.base, p.bits⟩
    have he : few ((p.exc.take 2).map mkBlk) 2 blkOk = true := by
      simp only [few, Bool.and_eq_true, decide_eq_true_eq, List.length_map, List.length_take, List.all_map, List.all_eq_true]
      exact ⟨by omega, fun x _ => mkBlk_ok x⟩
    unfold peerOk
    rw [if_neg (show ¬ (2 : Int) = 1 by decide)]
    simp only [hb, he]
    rfl
theorem mkRule_ok (r : DRule) : rulOk (mkRule r) = true := by
  simp only [rulOk, few, mkRule, Bool.and_eq_true, decide_eq_true_eq, List.length_map, List.length_take, List.all_map, List.all_eq_true]
  exact ⟨⟨by omega, fun x _ => mkPeer_ok x⟩, by omega, fun x _ => mkPort_ok x⟩
theorem mkRules_ok (l : List DRule) : (∀ r ∈ mkRules l, rulOk r = true) ∧ (mkRules l).length ≤ 2 := by
  refine ⟨fun r hr => ?_, by simp [mkRules]; omega⟩
  obtain ⟨x, _, rfl⟩ := List.mem_map.1 hr
  exact mkRule_ok x

/-- a peer as it lies in a row -/
structure XPeer where
  d : DPeer
  ea : Option Addr
  ec : Nat
def encXPeer (x : XPeer) : List Value := [.int .i64 x.d.kind, .int .i64 x.d.need, .int .i64 x.d.ban, .int .i64 x.d.spaces, .int .i64 x.d.base, .int .i64 x.d.bits, .slice x.ea x.d.exc.length x.ec]
structure XRule where
  d : DRule
  pa : Option Addr
  pc : Nat
  qa : Option Addr
  qc : Nat
def encXRule (x : XRule) : List Value := [.slice x.pa x.d.peers.length x.pc, .slice x.qa x.d.ports.length x.qc]
theorem encXPeer_len (x : XPeer) : (encXPeer x).length = 7 := rfl
theorem encXRule_len (x : XRule) : (encXRule x).length = 2 := rfl
def encPort (x : DPort) : List Value := [.int .i64 x.proto, .int .i64 x.lo, .int .i64 x.hi]

theorem blk_cell {w : World} {b : Nat} {arr : Array Value} {t : TypeId} (h : w.heap[b]? = some (.cells arr t (0, 0))) (o : Nat) : w.cell? ⟨b, o, none⟩ = arr[o]? := by simp [World.cell?, h]
theorem blk_frozen {w : World} {b : Nat} {arr : Array Value} {t : TypeId} (h : w.heap[b]? = some (.cells arr t (0, 0))) (o : Nat) : w.frozen? ⟨b, o, none⟩ = false := by simp [World.frozen?, h]
theorem take_lt {α : Type} {l : List α} {k : Nat} (h : k < (l.take 2).length) : k < l.length ∧ k < 2 ∧ (l.take 2)[k]? = l[k]? := by
  rw [List.length_take] at h
  exact ⟨by omega, by omega, by rw [List.getElem?_take, if_pos (by omega)]⟩
theorem take_ge {α : Type} {l : List α} {k : Nat} (h : ¬ k < (l.take 2).length) : ¬ (k < l.length ∧ k < 2) := by
  rw [List.length_take] at h
  omega

theorem gb_below {W w1 w2 : World} {r : Option Nat} (h : W.grownBy w1 r) (hb : Below w1.heap.size w1 w2) : W.grownBy w2 r :=
  ⟨hb.os.trans h.os, hb.tape.trans h.tape, hb.output.trans h.output, Nat.le_trans h.size hb.size, fun k hk hne => (hb.block k (Nat.lt_of_lt_of_le hk h.size)).trans (h.block k hk hne)⟩
theorem gb_row {W w1 w2 : World} {r r2 : Option Nat} (h : W.grownBy w1 r) (k : w1.grownBy w2 r2) (hr : ∀ g, r2 = some g → W.heap.size ≤ g) : W.grownBy w2 r :=
  ⟨k.os.trans h.os, k.tape.trans h.tape, k.output.trans h.output, Nat.le_trans h.size k.size, fun b hb hne => (k.block b (Nat.lt_of_lt_of_le hb h.size) (fun e => by have := hr b e.symm; omega)).trans (h.block b hb hne)⟩
theorem gb_set {W w1 : World} {q : Nat} (h : W.grownBy w1 (some q)) (o : Nat) (u : Value) : W.grownBy (w1.setCell ⟨q, o, none⟩ u) (some q) := by
  have hb := (Below.refl q w1).setCell (p := ⟨q, o, none⟩) (Nat.le_refl _) u
  exact ⟨hb.os.trans h.os, hb.tape.trans h.tape, hb.output.trans h.output, Nat.le_trans h.size hb.size, fun b hb' hne => (Below.heap_setCell _ _ _ _ (fun e => hne (by rw [e]))).trans (h.block b hb' hne)⟩
theorem gb_low {W w1 : World} {q B : Nat} (h : W.grownBy w1 (some q)) (hq : B ≤ q) (hB : B ≤ W.heap.size) : Below B W w1 := (Below.refl B W).grown h hB (fun k hk => by cases hk; exact hq)
theorem gb_refl (W : World) (r : Option Nat) : W.grownBy W r := ⟨rfl, rfl, rfl, Nat.le_refl _, fun _ _ _ => rfl⟩
theorem set_blk {w : World} {g : Nat} {cs : Array Value} {t : TypeId} (h : w.heap[g]? = some (.cells cs t (0, 0))) (i : Nat) (v : Value) : (w.setCell ⟨g, i, none⟩ v).heap[g]? = some (.cells (cs.setIfInBounds i v) t (0, 0)) := heap_setCell_same w g i cs t v h

def NPeer (B : Nat) (w : World) (y : XPeer) : Prop := rdBlks B w y.ea y.d.exc
def NRule (B : Nat) (w : World) (x : XRule) : Prop := rdPeers B w x.pa x.d.peers ∧ rdPorts B w x.qa x.d.ports
def NNo {X : Type} (_ : Nat) (_ : World) (_ : X) : Prop := True
theorem NPeer.mono : Mono NPeer := fun _ _ _ _ _ hs hB h => rdBlks.sub hs hB h
theorem NRule.mono : Mono NRule := fun _ _ _ _ _ hs hB h => ⟨rdPeers.sub hs hB h.1, rdPorts.sub hs hB h.2⟩
theorem NNo.mono {X : Type} : Mono (NNo (X := X)) := fun _ _ _ _ _ _ _ _ => trivial
abbrev UpBlks := Up 47 2 encBlk NNo
abbrev UpPorts := Up 109 3 encPort NNo
abbrev UpPeers := Up 69 7 encXPeer NPeer
abbrev UpRules := Up 64 2 encXRule NRule
theorem upBlks_done {base : Nat} {w : World} {v : Value} {l : List DBlk} (h : UpBlks base w v l) (hl : l.length ≤ 1000000) : ∃ a c, v = .slice a l.length c ∧ l.length ≤ c ∧ rdBlks w.heap.size (hide w (low base)) a l := by
  have := Up.done (X := DBlk) (k := 2) (enc := encBlk) (N := NNo) (d := id) (E := eBlk) (bytes := 16) NNo.mono (fun _ => rfl) (by decide) h (by omega) (fun B w b o y _ hc => ⟨hc 0 _ rfl, hc 1 _ rfl⟩)
  simpa using this
theorem upPorts_done {base : Nat} {w : World} {v : Value} {l : List DPort} (h : UpPorts base w v l) (hl : l.length ≤ 1000000) : ∃ a c, v = .slice a l.length c ∧ l.length ≤ c ∧ rdPorts w.heap.size (hide w (low base)) a l := by
  have := Up.done (X := DPort) (k := 3) (enc := encPort) (N := NNo) (d := id) (E := ePort) (bytes := 24) NNo.mono (fun _ => rfl) (by decide) h (by omega) (fun B w b o y _ hc => ⟨hc 0 _ rfl, hc 1 _ rfl, hc 2 _ rfl⟩)
  simpa using this
theorem upPeers_done {base : Nat} {w : World} {v : Value} {l : List XPeer} (h : UpPeers base w v l) (hl : l.length ≤ 1000000) : ∃ a c, v = .slice a (l.map (·.d)).length c ∧ (l.map (·.d)).length ≤ c ∧ rdPeers w.heap.size (hide w (low base)) a (l.map (·.d)) :=
  Up.done (d := (·.d)) (E := ePeer) (bytes := 72) NPeer.mono (fun _ => rfl) (by decide) h (by omega) (fun B w b o y hn hc => ⟨hc 0 _ rfl, hc 1 _ rfl, hc 2 _ rfl, hc 3 _ rfl, hc 4 _ rfl, hc 5 _ rfl, y.ea, y.ec, hc 6 _ rfl, hn⟩)
theorem upRules_done {base : Nat} {w : World} {v : Value} {l : List XRule} (h : UpRules base w v l) (hl : l.length ≤ 1000000) : ∃ a c, v = .slice a (l.map (·.d)).length c ∧ (l.map (·.d)).length ≤ c ∧ rdRules w.heap.size (hide w (low base)) a (l.map (·.d)) :=
  Up.done (d := (·.d)) (E := eRule) (bytes := 48) NRule.mono (fun _ => rfl) (by decide) h (by omega) (fun B w b o y hn hc => ⟨⟨y.pa, y.pc, hc 0 _ rfl, hn.1⟩, y.qa, y.qc, hc 1 _ rfl, hn.2⟩)
theorem info_peer : (Tryz.prog.info? 69).map (fun i => (i.zero, i.size, i.bytes)) = some (some (.agg #[.int .i64 0, .int .i64 0, .int .i64 0, .int .i64 0, .int .i64 0, .int .i64 0, .slice none 0 0]), 7, 72) := by kernel_rfl
theorem info_rule : (Tryz.prog.info? 64).map (fun i => (i.zero, i.size, i.bytes)) = some (some (.agg #[.slice none 0 0, .slice none 0 0]), 2, 48) := by kernel_rfl
theorem info_port : (Tryz.prog.info? 109).map (fun i => (i.zero, i.size, i.bytes)) = some (some (.agg #[.int .i64 0, .int .i64 0, .int .i64 0]), 3, 24) := by kernel_rfl
theorem snoc_take {α β : Type} {l : List α} {j : Nat} {p : α} (f : α → β) (h : l[j]? = some p) : (l.take j).map f ++ [f p] = (l.take (j + 1)).map f := by rw [List.take_add_one, h, Option.toList_some, List.map_append]; rfl
theorem new_heap (w : World) (o : Obj) : (w.alloc o).heap[w.heap.size]? = some o := by show (w.heap.push _)[w.heap.size]? = _; simp

end Go.Proofs.YtmkjlhplgcifiaaGreat
namespace Go.Proofs.YtmkjlhplgcifiaaGreat
open Go.ChangeShapes Go.WideShapes Go.ChangeAt Go.RowKit
attribute [local simp] World.cell?_grow
attribute [local go_sem] World.cell?_grow
attribute [local simp] World.cell?_alloc_there
attribute [local go_sem] World.cell?_alloc_there
attribute [local go_sem] eqg_blk std_blk eqg_pod std_pod eqg_sel std_sel eqg_prt std_prt
attribute [local go_sem ↓] eql_blk eql_sel neq_sel eql_prt eql_pod
attribute [local go_sem ↓] met_in1 met_in2 met_re1 met_re2
attribute [local go_sem ↓] met_has1 met_has2
attribute [local go_sem ↓] met_bl1 met_bl2
set_option linter.unusedVariables false
set_option linter.unusedSimpArgs false

abbrev UpPods := Up 54 4 encPod NNo
theorem upPods_done {base : Nat} {w : World} {v : Value} {l : List DPod} (h : UpPods base w v l) (hl : l.length * 32 ≤ 140737488351232) : ∃ a c, v = .slice a l.length c ∧ l.length ≤ c ∧ rdPods w.heap.size (hide w (low base)) a l := by
  have := Up.done (X := DPod) (k := 4) (enc := encPod) (N := NNo) (d := id) (E := ePod) (bytes := 32) NNo.mono (fun _ => rfl) (by decide) h hl (fun B w b o y _ hc => ⟨hc 0 _ rfl, hc 1 _ rfl, hc 2 _ rfl, hc 3 _ rfl⟩)
  simpa using this
theorem upPorts_done' {base : Nat} {w : World} {v : Value} {l : List DPort} (h : UpPorts base w v l) (hl : l.length * 24 ≤ 140737488351232) : ∃ a c, v = .slice a l.length c ∧ l.length ≤ c ∧ rdPorts w.heap.size (hide w (low base)) a l := by
  have := Up.done (X := DPort) (k := 3) (enc := encPort) (N := NNo) (d := id) (E := ePort) (bytes := 24) NNo.mono (fun _ => rfl) (by decide) h hl (fun B w b o y _ hc => ⟨hc 0 _ rfl, hc 1 _ rfl, hc 2 _ rfl⟩)
  simpa using this
theorem upBlks_done' {base : Nat} {w : World} {v : Value} {l : List DBlk} (h : UpBlks base w v l) (hl : l.length * 16 ≤ 140737488351232) : ∃ a c, v = .slice a l.length c ∧ l.length ≤ c ∧ rdBlks w.heap.size (hide w (low base)) a l := by
  have := Up.done (X := DBlk) (k := 2) (enc := encBlk) (N := NNo) (d := id) (E := eBlk) (bytes := 16) NNo.mono (fun _ => rfl) (by decide) h hl (fun B w b o y _ hc => ⟨hc 0 _ rfl, hc 1 _ rfl⟩)
  simpa using this
theorem ePod_cells {B : Nat} {w : World} {b o : Nat} {x : DPod} (h : ePod B w b o x) : ∀ j u, (encPod x)[j]? = some u → w.cell? ⟨b, o + j, none⟩ = some u
  | 0, u, hj => by simp [encPod] at hj; subst hj; exact h.1
  | 1, u, hj => by simp [encPod] at hj; subst hj; exact h.2.1
  | 2, u, hj => by simp [encPod] at hj; subst hj; exact h.2.2.1
  | 3, u, hj => by simp [encPod] at hj; subst hj; exact h.2.2.2
  | j + 4, u, hj => by simp [encPod] at hj
theorem ePort_cells {B : Nat} {w : World} {b o : Nat} {x : DPort} (h : ePort B w b o x) : ∀ j u, (encPort x)[j]? = some u → w.cell? ⟨b, o + j, none⟩ = some u
  | 0, u, hj => by simp [encPort] at hj; subst hj; exact h.1
  | 1, u, hj => by simp [encPort] at hj; subst hj; exact h.2.1
  | 2, u, hj => by simp [encPort] at hj; subst hj; exact h.2.2
  | j + 3, u, hj => by simp [encPort] at hj
theorem encPods_one (l : List DPod) : ∀ u ∈ l.flatMap encPod, u.oneCell' = true := by
  intro u hu
  obtain ⟨x, _, hx⟩ := List.mem_flatMap.1 hu
  simp [encPod] at hx
  rcases hx with rfl | rfl | rfl | rfl <;> rfl
theorem encPorts_one (l : List DPort) : ∀ u ∈ l.flatMap encPort, u.oneCell' = true := by
  intro u hu
  obtain ⟨x, _, hx⟩ := List.mem_flatMap.1 hu
  simp [encPort] at hx
  rcases hx with rfl | rfl | rfl <;> rfl
theorem rd_none {α : Type} {B : Nat} {w : World} {sz bytes : Nat} {E : Nat → World → Nat → Nat → α → Prop} {l : List α} (h : RdSl B w sz bytes E none l) : l = [] := by
  cases l with
  | nil => rfl
  | cons x t => obtain ⟨b, off, e, _⟩ := h.2 0 x rfl; cases e

set_option maxRecDepth 100000 in
theorem clonePods_any (l : List DPod) (a : Option Addr) (cap : Nat) (w : World) (hl : rdPods w.heap.size w a l) :
    Calls Tryz.prog 58 #[.slice a l.length cap] w fun e w' => (∃ a' c', e = .returned (.slice a' l.length c') ∧ l.length ≤ c' ∧ rdPods w'.heap.size (hide w' (low w.heap.size)) a' l) ∧ Below w.heap.size w w' := by
  have HL := hid hl
  have hlen := hl.1
  obtain ⟨i0, hi, iz0, iz1, iz2⟩ := info_parts info_pod
  cases a with
  | none =>
    have hnil := rd_none hl
    subst hnil
    have hq : ∀ w, (binOp .eql 25 (.slice none 0 cap) (.slice none 0 0)).run Tryz.prog w = .ok (.bool true) w := fun w => by
      simp only [binOp]
      simp [Op.equal, Op.maxDepth, Lib.run_equalIn_slice_nil w 9999 _ _ none 0 cap 0 0 Tryz.underlying25]
    clear hl
    rw [List.length_nil]
    go_enter Tryz.func58, Tryz.ntmps58
    go_wp2
    go_ret
    exact ⟨⟨none, 0, rfl, Nat.le_refl _, rd_nil _ _ _ _ _ _⟩, (by repeat (first | exact Below.refl _ _ | assumption | apply Ext.alloc | apply Ext.drewN | apply Ext.drew | refine Ext.trans ?_ (by assumption)))⟩
  | some ad =>
    have hq : ∀ w, (binOp .eql 25 (.slice (some ad) l.length cap) (.slice none 0 0)).run Tryz.prog w = .ok (.bool false) w := fun w => by
      simp only [binOp]
      simp [Op.equal, Op.maxDepth, Lib.run_equalIn_slice_nil w 9999 _ _ (some ad) l.length cap 0 0 Tryz.underlying25]
    clear hl
    go_enter Tryz.func58, Tryz.ntmps58
    go_wp2_with (at_builtin; refine wpList_append_list _ rfl _ _ 25 rfl w.heap.size 54 i0 _ 4 32 Tryz.underlying25 hi iz0 iz1 iz2 rfl (by decide) _ 0 [] rfl (own_built w [] w.heap.size _ 4 0 (Nat.le_refl _) rfl (by unfold maxLen; omega)) (some ad) _ cap (l.flatMap encPod) rfl (oflat_len (k := 4) (fun _ => rfl) _) (news_of (k := 4) (fun _ => rfl) (by decide) (rdPods.to HL.out (by repeat (first | exact Below.refl _ _ | assumption | apply Ext.alloc | apply Ext.drewN | apply Ext.drew | refine Ext.trans ?_ (by assumption)))) (fun _ _ _ => ePod_cells)) (encPods_one _) (by unfold maxLen; omega) (by omega) (by simp) ?_; intro v' w3 hown' hg3; obtain ⟨a3, c3, rfl, hc3, hr3⟩ := upPods_done (base := w.heap.size) (w := w3) (v := v') (l := l) ⟨by simpa using hown', fun _ _ => trivial⟩ hlen; have HR3 := hid hr3; clear hr3)
    go_ret
    refine ⟨⟨a3, c3, rfl, hc3, HR3.out⟩, ?_⟩
    exact own_below (show Below w.heap.size w (w.alloc (.cells #[] 54)) from (by repeat (first | exact Below.refl _ _ | assumption | apply Ext.alloc | apply Ext.drewN | apply Ext.drew | refine Ext.trans ?_ (by assumption)))) (by simp) (own_built w [] w.heap.size _ 4 0 (Nat.le_refl _) rfl (by unfold maxLen; omega)) hg3

set_option maxRecDepth 100000 in
theorem clonePorts_any (l : List DPort) (a : Option Addr) (cap : Nat) (w : World) (hl : rdPorts w.heap.size w a l) :
    Calls Tryz.prog 132 #[.slice a l.length cap] w fun e w' => (∃ a' c', e = .returned (.slice a' l.length c') ∧ l.length ≤ c' ∧ rdPorts w'.heap.size (hide w' (low w.heap.size)) a' l) ∧ Below w.heap.size w w' := by
  have HL := hid hl
  have hlen := hl.1
  obtain ⟨i0, hi, iz0, iz1, iz2⟩ := info_parts info_port
  cases a with
  | none =>
    have hnil := rd_none hl
    subst hnil
    have hq : ∀ w, (binOp .eql 62 (.slice none 0 cap) (.slice none 0 0)).run Tryz.prog w = .ok (.bool true) w := fun w => by
      simp only [binOp]
      simp [Op.equal, Op.maxDepth, Lib.run_equalIn_slice_nil w 9999 _ _ none 0 cap 0 0 Tryz.underlying62]
    clear hl
    rw [List.length_nil]
    go_enter Tryz.func132, Tryz.ntmps132
    go_wp2
    go_ret
    exact ⟨⟨none, 0, rfl, Nat.le_refl _, rd_nil _ _ _ _ _ _⟩, (by repeat (first | exact Below.refl _ _ | assumption | apply Ext.alloc | apply Ext.drewN | apply Ext.drew | refine Ext.trans ?_ (by assumption)))⟩
  | some ad =>
    have hq : ∀ w, (binOp .eql 62 (.slice (some ad) l.length cap) (.slice none 0 0)).run Tryz.prog w = .ok (.bool false) w := fun w => by
      simp only [binOp]
      simp [Op.equal, Op.maxDepth, Lib.run_equalIn_slice_nil w 9999 _ _ (some ad) l.length cap 0 0 Tryz.underlying62]
    clear hl
    go_enter Tryz.func132, Tryz.ntmps132
    go_wp2_with (at_builtin; refine wpList_append_list _ rfl _ _ 62 rfl w.heap.size 109 i0 _ 3 24 Tryz.underlying62 hi iz0 iz1 iz2 rfl (by decide) _ 0 [] rfl (own_built w [] w.heap.size _ 3 0 (Nat.le_refl _) rfl (by unfold maxLen; omega)) (some ad) _ cap (l.flatMap encPort) rfl (oflat_len (k := 3) (fun _ => rfl) _) (news_of (k := 3) (fun _ => rfl) (by decide) (rdPorts.to HL.out (by repeat (first | exact Below.refl _ _ | assumption | apply Ext.alloc | apply Ext.drewN | apply Ext.drew | refine Ext.trans ?_ (by assumption)))) (fun _ _ _ => ePort_cells)) (encPorts_one _) (by unfold maxLen; omega) (by omega) (by simp) ?_; intro v' w3 hown' hg3; obtain ⟨a3, c3, rfl, hc3, hr3⟩ := upPorts_done' (base := w.heap.size) (w := w3) (v := v') (l := l) ⟨by simpa using hown', fun _ _ => trivial⟩ hlen; have HR3 := hid hr3; clear hr3)
    go_ret
    refine ⟨⟨a3, c3, rfl, hc3, HR3.out⟩, ?_⟩
    exact own_below (show Below w.heap.size w (w.alloc (.cells #[] 109)) from (by repeat (first | exact Below.refl _ _ | assumption | apply Ext.alloc | apply Ext.drewN | apply Ext.drew | refine Ext.trans ?_ (by assumption)))) (by simp) (own_built w [] w.heap.size _ 3 0 (Nat.le_refl _) rfl (by unfold maxLen; omega)) hg3

set_option maxRecDepth 100000 in
theorem cloneBlks_any (l : List DBlk) (a : Option Addr) (cap : Nat) (w : World) (hl : rdBlks w.heap.size w a l) :
    Calls Tryz.prog 160 #[.slice a l.length cap] w fun e w' => (∃ a' c', e = .returned (.slice a' l.length c') ∧ l.length ≤ c' ∧ rdBlks w'.heap.size (hide w' (low w.heap.size)) a' l) ∧ Below w.heap.size w w' := by
  have HL := hid hl
  have hlen := hl.1
  obtain ⟨i0, hi, iz0, iz1, iz2⟩ := info_parts info_blk
  cases a with
  | none =>
    have hnil := rd_none hl
    subst hnil
    have hq : ∀ w, (binOp .eql 67 (.slice none 0 cap) (.slice none 0 0)).run Tryz.prog w = .ok (.bool true) w := fun w => by
      simp only [binOp]
      simp [Op.equal, Op.maxDepth, Lib.run_equalIn_slice_nil w 9999 _ _ none 0 cap 0 0 Tryz.underlying67]
    clear hl
    rw [List.length_nil]
    go_enter Tryz.func160, Tryz.ntmps160
    go_wp2
    go_ret
    exact ⟨⟨none, 0, rfl, Nat.le_refl _, rd_nil _ _ _ _ _ _⟩, (by repeat (first | exact Below.refl _ _ | assumption | apply Ext.alloc | apply Ext.drewN | apply Ext.drew | refine Ext.trans ?_ (by assumption)))⟩
  | some ad =>
    have hq : ∀ w, (binOp .eql 67 (.slice (some ad) l.length cap) (.slice none 0 0)).run Tryz.prog w = .ok (.bool false) w := fun w => by
      simp only [binOp]
      simp [Op.equal, Op.maxDepth, Lib.run_equalIn_slice_nil w 9999 _ _ (some ad) l.length cap 0 0 Tryz.underlying67]
    clear hl
    go_enter Tryz.func160, Tryz.ntmps160
    go_wp2_with (at_builtin; refine wpList_append_list _ rfl _ _ 67 rfl w.heap.size 47 i0 _ 2 16 Tryz.underlying67 hi iz0 iz1 iz2 rfl (by decide) _ 0 [] rfl (own_built w [] w.heap.size _ 2 0 (Nat.le_refl _) rfl (by unfold maxLen; omega)) (some ad) _ cap (l.flatMap encBlk) rfl (oflat_len (k := 2) (fun _ => rfl) _) (news_of (k := 2) (fun _ => rfl) (by decide) (rdBlks.to HL.out (by repeat (first | exact Below.refl _ _ | assumption | apply Ext.alloc | apply Ext.drewN | apply Ext.drew | refine Ext.trans ?_ (by assumption)))) (fun _ _ _ => eBlk_cells)) (encBlk_one _) (by unfold maxLen; omega) (by omega) (by simp) ?_; intro v' w3 hown' hg3; obtain ⟨a3, c3, rfl, hc3, hr3⟩ := upBlks_done' (base := w.heap.size) (w := w3) (v := v') (l := l) ⟨by simpa using hown', fun _ _ => trivial⟩ hlen; have HR3 := hid hr3; clear hr3)
    go_ret
    refine ⟨⟨a3, c3, rfl, hc3, HR3.out⟩, ?_⟩
    exact own_below (show Below w.heap.size w (w.alloc (.cells #[] 47)) from (by repeat (first | exact Below.refl _ _ | assumption | apply Ext.alloc | apply Ext.drewN | apply Ext.drew | refine Ext.trans ?_ (by assumption)))) (by simp) (own_built w [] w.heap.size _ 2 0 (Nat.le_refl _) rfl (by unfold maxLen; omega)) hg3
end Go.Proofs.YtmkjlhplgcifiaaGreat
namespace Go.Proofs.YtmkjlhplgcifiaaGreat
open Go.ChangeShapes Go.WideShapes Go.ChangeAt Go.RowKit
attribute [local simp] World.cell?_grow
attribute [local go_sem] World.cell?_grow
attribute [local simp] World.cell?_alloc_there
attribute [local go_sem] World.cell?_alloc_there
attribute [local go_sem] eqg_blk std_blk eqg_pod std_pod eqg_sel std_sel eqg_prt std_prt
attribute [local go_sem ↓] eql_blk eql_sel neq_sel eql_prt eql_pod
attribute [local go_sem ↓] met_in1 met_in2 met_re1 met_re2
attribute [local go_sem ↓] met_has1 met_has2
attribute [local go_sem ↓] met_bl1 met_bl2
set_option linter.unusedVariables false
set_option linter.unusedSimpArgs false

theorem cpy_take {α β : Type} {l : List β} {ys : List α} {d : α → β} {k : Nat} {y : α} (h : ys.map d = l.take k) (hk : l[k]? = some (d y)) : (ys ++ [y]).map d = l.take (k + 1) := by
  rw [List.map_append, h, List.take_add_one, hk]; rfl
theorem cpy_len {α β : Type} {l : List β} {ys : List α} {d : α → β} {k : Nat} (h : ys.map d = l.take k) : ys.length ≤ k := by
  have h := congrArg List.length h
  simp at h; omega
theorem upPeers_done' {base : Nat} {w : World} {v : Value} {l : List XPeer} (h : UpPeers base w v l) (hl : l.length * 72 ≤ 140737488351232) : ∃ a c, v = .slice a (l.map (·.d)).length c ∧ (l.map (·.d)).length ≤ c ∧ rdPeers w.heap.size (hide w (low base)) a (l.map (·.d)) :=
  Up.done (d := (·.d)) (E := ePeer) (bytes := 72) NPeer.mono (fun _ => rfl) (by decide) h hl (fun B w b o y hn hc => ⟨hc 0 _ rfl, hc 1 _ rfl, hc 2 _ rfl, hc 3 _ rfl, hc 4 _ rfl, hc 5 _ rfl, y.ea, y.ec, hc 6 _ rfl, hn⟩)
theorem upRules_done' {base : Nat} {w : World} {v : Value} {l : List XRule} (h : UpRules base w v l) (hl : l.length * 48 ≤ 140737488351232) : ∃ a c, v = .slice a (l.map (·.d)).length c ∧ (l.map (·.d)).length ≤ c ∧ rdRules w.heap.size (hide w (low base)) a (l.map (·.d)) :=
  Up.done (d := (·.d)) (E := eRule) (bytes := 48) NRule.mono (fun _ => rfl) (by decide) h hl (fun B w b o y hn hc => ⟨⟨y.pa, y.pc, hc 0 _ rfl, hn.1⟩, y.qa, y.qc, hc 1 _ rfl, hn.2⟩)
def NPol (B : Nat) (w : World) (x : RPol) : Prop := x.ok B w
theorem NPol.mono : Mono NPol := fun _ _ _ _ _ hs hB ⟨⟨a, c, h1, h2⟩, a', c', h3, h4⟩ => ⟨⟨a, c, h1, rdRules.sub hs hB h2⟩, a', c', h3, rdRules.sub hs hB h4⟩
abbrev UpPols := Up 59 6 encPol NPol
theorem upPols_done {base : Nat} {w : World} {v : Value} {l : List RPol} (h : UpPols base w v l) (hl : l.length * 80 ≤ 140737488351232) : ∃ a c, v = .slice a (l.map (·.d)).length c ∧ (l.map (·.d)).length ≤ c ∧ rdPols w.heap.size (hide w (low base)) a (l.map (·.d)) :=
  Up.done (d := (·.d)) (E := ePol) (bytes := 80) NPol.mono (fun _ => rfl) (by decide) h hl (fun B w b o y hn hc => by
    obtain ⟨⟨oa, oc, ho, hro⟩, ia, ic, hi, hri⟩ := hn
    exact ⟨hc 0 _ rfl, hc 1 _ rfl, hc 2 _ rfl, hc 3 _ rfl, ⟨oa, oc, by rw [← ho]; exact hc 4 _ rfl, hro⟩, ia, ic, by rw [← hi]; exact hc 5 _ rfl, hri⟩)

set_option maxRecDepth 100000 in
theorem peerCopy_any (x : DPeer) (ea : Option Addr) (ec : Nat) (w : World) (hr : rdBlks w.heap.size w ea x.exc) :
    Calls Tryz.prog 131 #[.agg #[.int .i64 x.kind, .int .i64 x.need, .int .i64 x.ban, .int .i64 x.spaces, .int .i64 x.base, .int .i64 x.bits, .slice ea x.exc.length ec]] w
      fun e w' => (∃ a c, e = .returned (.agg #[.int .i64 x.kind, .int .i64 x.need, .int .i64 x.ban, .int .i64 x.spaces, .int .i64 x.base, .int .i64 x.bits, .slice a x.exc.length c]) ∧ rdBlks w'.heap.size (hide w' (low w.heap.size)) a x.exc) ∧ Below w.heap.size w w' := by
  have HR := hid hr
  clear hr
  go_enter Tryz.func131, Tryz.ntmps131
  go_wp2_with (go_at_call 160; refine (cloneBlks_any x.exc _ _ _ (rdBlks.to HR.out (by repeat (first | exact Below.refl _ _ | assumption | apply Ext.alloc | apply Ext.drewN | apply Ext.drew | refine Ext.trans ?_ (by assumption))))).mono ?_; rintro e w1 ⟨⟨a1, c1, rfl, hc1, hr1⟩, hb1⟩; have HR1 := hid (show rdBlks w1.heap.size (hide w1 (low (w.heap.size + 1 + 1))) a1 x.exc by simpa only [World.size_alloc] using hr1); have HB1 := hid (show Below w.heap.size w w1 from (by repeat (first | exact Below.refl _ _ | assumption | apply Ext.alloc | apply Ext.drewN | apply Ext.drew | refine Ext.trans ?_ (by assumption)))); have q0 : w1.heap[w.heap.size]? = some (.cells #[.int .i64 x.kind, .int .i64 x.need, .int .i64 x.ban, .int .i64 x.spaces, .int .i64 x.base, .int .i64 x.bits, .slice ea x.exc.length ec] 69 (0, 0)) := (hb1.block _ (by simp; omega)).trans ((Below.heap_alloc _ _ _ (by simp)).trans (new_heap _ _)); have q1 : w1.heap[w.heap.size + 1]? = some (.cells #[.int .i64 0, .int .i64 0, .int .i64 0, .int .i64 0, .int .i64 0, .int .i64 0, .slice none 0 0] 69 (0, 0)) := (hb1.block _ (by simp)).trans (by have := new_heap (w.alloc (.cells #[.int .i64 x.kind, .int .i64 x.need, .int .i64 x.ban, .int .i64 x.spaces, .int .i64 x.base, .int .i64 x.bits, .slice ea x.exc.length ec] 69)) (.cells #[.int .i64 0, .int .i64 0, .int .i64 0, .int .i64 0, .int .i64 0, .int .i64 0, .slice none 0 0] 69); simpa only [World.size_alloc] using this); have k0 := blk_cell q0; have k1 := blk_cell q1; have f0 := blk_frozen q0; have f1 := blk_frozen q1; clear hr1 hb1 q0 q1)
  refine bodyPost_ret (v := .agg #[.int .i64 x.kind, .int .i64 x.need, .int .i64 x.ban, .int .i64 x.spaces, .int .i64 x.base, .int .i64 x.bits, .slice a1 x.exc.length c1]) (by simp [results, Tryz.results131, go_sem, k0, k1]) rfl ⟨⟨a1, c1, rfl, ?_⟩, ?_⟩
  · refine rdBlks.sub (Sub.trans ?_ (Sub.low (m := w.heap.size + 1 + 1) (by omega))) (by simp) HR1.out
    iterate 8 refine Sub.trans ?_ (Sub.set _ _ (by simp only [low, decide_eq_true_eq]; omega))
    exact Sub.refl _
  · iterate 8 refine Below.setCell ?_ (by simp) _
    exact HB1.out

set_option maxRecDepth 100000 in
theorem mapPeer_any (l : List DPeer) (a : Option Addr) (cap : Nat) (w : World) (hl : rdPeers w.heap.size w a l) :
    Calls Tryz.prog 130 #[.slice a l.length cap, .func (.func 131) #[] #[]] w
      fun e w' => (∃ a c, e = .returned (.slice a l.length c) ∧ l.length ≤ c ∧ rdPeers w'.heap.size (hide w' (low w.heap.size)) a l) ∧ Below w.heap.size w w' := by
  have HL := hid hl
  have hlen := hl.1
  clear hl
  obtain ⟨i0, hi, iz0, iz1, iz2⟩ := info_parts info_peer
  go_enter Tryz.func130, Tryz.ntmps130
  go_wp2
  go_loopw [5, 10] (fun v i wr => ∃ (k : Nat) (ys : List XPeer), k ≤ l.length ∧ i = .int .i64 k ∧ ys.map (·.d) = l.take k ∧ UpPeers w.heap.size wr v ys ∧ Below w.heap.size w wr) (fun _ i _ => l.length - (intOf i).toNat)
  case atStart => exact ⟨0, [], Nat.zero_le _, rfl, rfl, Up.nil _ _, Below.refl _ _⟩
  case round =>
    obtain ⟨k, ys, hk, rfl, hys, hup, hbw⟩ := hrel
    have HYS := hid hys
    have HU := hid hup
    have HBW := hid hbw
    have hyl := cpy_len hys
    have hws := hbw.size
    clear hys hup
    by_cases hlt : k < l.length
    · obtain ⟨x, hxk⟩ : ∃ x, l[k]? = some x := ⟨l[k], by simp [hlt]⟩
      have HX := hid hxk
      obtain ⟨b, off, rfl, hb, c0, c1, c2, c3, c4, c5, ea, ec, c6, hre⟩ := HL.out.2 k x hxk
      have HRE := hid hre
      obtain ⟨hc, hf⟩ := bcell hbw
      clear hxk hre
      go_wp2_with (first
        | (go_at_call 131; go_must (refine (peerCopy_any x ea ec _ (rdBlks.to HRE.out (by repeat (first | exact Below.refl _ _ | assumption | apply Ext.alloc | apply Ext.drewN | apply Ext.drew | refine Ext.trans ?_ (by assumption))))).mono ?_); rintro e w2 ⟨⟨a2, c2', rfl, hr2⟩, hb2⟩; have HB2 := hid (show Below wr.heap.size wr w2 from (by repeat (first | exact Below.refl _ _ | assumption | apply Ext.alloc | apply Ext.drewN | apply Ext.drew | refine Ext.trans ?_ (by assumption)))); have HR2 := hid (show rdBlks w2.heap.size (hide w2 (low (wr.heap.size + 1))) a2 x.exc by simpa only [World.size_alloc] using hr2); have HU2 := hid (HU.out.grow NPeer.mono HB2.out); have hs2 := HB2.out.size; clear hr2 hb2)
        | (at_builtin; refine wpList_append_own_at _ rfl _ _ 61 rfl w.heap.size 69 i0 _ 7 72 Tryz.underlying61 hi iz0 iz1 iz2 rfl (by decide) _ _ _ rfl (HU2.out.1.alloc (.cells (encXPeer ⟨x, a2, c2'⟩).toArray 69)) ⟨w2.heap.size, 0, none⟩ 1 1 (encXPeer ⟨x, a2, c2'⟩) rfl rfl (cell_new_list w2 (encXPeer ⟨x, a2, c2'⟩) _) (by intro u hu; simp only [encXPeer, List.mem_cons, List.not_mem_nil, or_false] at hu; rcases hu with rfl | rfl | rfl | rfl | rfl | rfl | rfl <;> rfl) (by unfold maxLen; omega) (by omega) (by rw [World.size_alloc]; omega) ?_; intro v' w3 hown3 hg3 hnil3 hat3))
      have hB3 : Below w2.heap.size w2 (w2.alloc (.cells (encXPeer ⟨x, a2, c2'⟩).toArray 69)) := (Below.refl _ w2).alloc (Nat.le_refl _) _
      refine ⟨⟨k + 1, ys ++ [⟨x, a2, c2'⟩], by omega, by go_num, cpy_take HYS.out HX.out, ?_, ?_⟩, by simp [intOf]; omega⟩
      · exact Up.app NPeer.mono (m := wr.heap.size + 1) (HU2.out.grow NPeer.mono hB3) (by omega) (fun g hg => by have := (HU.out.lt g hg).2; omega) (rdBlks.sub (Sub.grow hB3) hB3.size HR2.out) hown3 hg3 hat3
      · exact own_below (((HBW.out.trans (HB2.out.mono hws))).trans (hB3.mono (by omega))) (by rw [World.size_alloc]; omega) (HU2.out.1.alloc _) hg3
    · go_wp2
      have he : l.take k = l := List.take_of_length_le (by omega)
      obtain ⟨a2, c2, rfl, hc2, hr2⟩ := upPeers_done' HU.out (by omega)
      rw [HYS.out, he] at hc2 hr2 ⊢
      go_ret
      exact ⟨⟨a2, c2, rfl, hc2, hr2⟩, hbw⟩
end Go.Proofs.YtmkjlhplgcifiaaGreat
