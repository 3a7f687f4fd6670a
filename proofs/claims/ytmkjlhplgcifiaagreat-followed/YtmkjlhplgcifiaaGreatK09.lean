/-
  Reading while other blocks are being written: a world with some blocks hidden. What reads there reads in every world that has the blocks that are not hidden.
  A list that is being built by appending, of elements that hold lists of their own.
  What is left of a block without some others, as a list of blocks: which addresses they have, and how many they are.
-/
import Derived.Test.YtmkjlhplgcifiaaGreatK08
import Derived.Test.YtmkjlhplgcifiaaGreatK04
import Derived.Test.YtmkjlhplgcifiaaGreatK02
namespace Go.Proofs.YtmkjlhplgcifiaaGreat
open Go.ChangeShapes Go.WideShapes Go.ChangeAt Go.RowKit
attribute [local simp] World.cell?_grow
attribute [local go_sem] World.cell?_grow
attribute [local go_sem] eqg_blk std_blk eqg_pod std_pod eqg_sel std_sel eqg_prt std_prt
attribute [local go_sem ↓] eql_blk eql_sel neq_sel eql_prt eql_pod
attribute [local go_sem ↓] met_in1 met_in2 met_re1 met_re2
set_option linter.unusedVariables false
set_option linter.unusedSimpArgs false
/-- every cell of w is one of w' -/
def Sub (w w' : World) : Prop := ∀ b o u, w.cell? ⟨b, o, none⟩ = some u → w'.cell? ⟨b, o, none⟩ = some u
theorem Sub.refl (w : World) : Sub w w := fun _ _ _ h => h
theorem Sub.trans {a b c : World} (h : Sub a b) (k : Sub b c) : Sub a c := fun b o u hu => k b o u (h b o u hu)
theorem rdBlks.sub {B B' : Nat} {w w' : World} (hs : Sub w w') (hB : B ≤ B') {a : Option Addr} {l : List DBlk} (h : rdBlks B w a l) : rdBlks B' w' a l :=
  RdSl.ext h hB fun b o x _ ⟨h0, h1⟩ => ⟨hs _ _ _ h0, hs _ _ _ h1⟩
theorem rdPods.sub {B B' : Nat} {w w' : World} (hs : Sub w w') (hB : B ≤ B') {a : Option Addr} {l : List DPod} (h : rdPods B w a l) : rdPods B' w' a l :=
  RdSl.ext h hB fun b o x _ ⟨h0, h1, h2, h3⟩ => ⟨hs _ _ _ h0, hs _ _ _ h1, hs _ _ _ h2, hs _ _ _ h3⟩
theorem rdPorts.sub {B B' : Nat} {w w' : World} (hs : Sub w w') (hB : B ≤ B') {a : Option Addr} {l : List DPort} (h : rdPorts B w a l) : rdPorts B' w' a l :=
  RdSl.ext h hB fun b o x _ ⟨h0, h1, h2⟩ => ⟨hs _ _ _ h0, hs _ _ _ h1, hs _ _ _ h2⟩
theorem rdPeers.sub {B B' : Nat} {w w' : World} (hs : Sub w w') (hB : B ≤ B') {a : Option Addr} {l : List DPeer} (h : rdPeers B w a l) : rdPeers B' w' a l :=
  RdSl.ext h hB fun b o x _ ⟨h0, h1, h2, h3, h4, h5, a, c, h6, h7⟩ => ⟨hs _ _ _ h0, hs _ _ _ h1, hs _ _ _ h2, hs _ _ _ h3, hs _ _ _ h4, hs _ _ _ h5, a, c, hs _ _ _ h6, rdBlks.sub hs hB h7⟩
theorem rdRules.sub {B B' : Nat} {w w' : World} (hs : Sub w w') (hB : B ≤ B') {a : Option Addr} {l : List DRule} (h : rdRules B w a l) : rdRules B' w' a l :=
  RdSl.ext h hB fun b o x _ ⟨⟨a, c, h0, h1⟩, a', c', h2, h3⟩ => ⟨⟨a, c, hs _ _ _ h0, rdPeers.sub hs hB h1⟩, a', c', hs _ _ _ h2, rdPorts.sub hs hB h3⟩
theorem rdPols.sub {B B' : Nat} {w w' : World} (hs : Sub w w') (hB : B ≤ B') {a : Option Addr} {l : List DPol} (h : rdPols B w a l) : rdPols B' w' a l :=
  RdSl.ext h hB fun b o x _ ⟨h0, h1, h2, h3, ⟨a, c, h4, h5⟩, a', c', h6, h7⟩ => ⟨hs _ _ _ h0, hs _ _ _ h1, hs _ _ _ h2, hs _ _ _ h3, ⟨a, c, hs _ _ _ h4, rdRules.sub hs hB h5⟩, a', c', hs _ _ _ h6, rdRules.sub hs hB h7⟩
/-- the world, with some blocks emptied -/
def hide (w : World) (G : Nat → Bool) : World := { w with heap := w.heap.mapIdx fun i o => if G i then .cells #[] 0 else o }
theorem hide_size (w : World) (G : Nat → Bool) : (hide w G).heap.size = w.heap.size := by simp [hide]
theorem hide_block (w : World) (G : Nat → Bool) (b : Nat) (h : G b = false) : (hide w G).heap[b]? = w.heap[b]? := by
  simp only [hide, Array.getElem?_mapIdx, h]
  cases w.heap[b]? <;> simp
theorem hide_cell (w : World) (G : Nat → Bool) (b o : Nat) (h : G b = false) : (hide w G).cell? ⟨b, o, none⟩ = w.cell? ⟨b, o, none⟩ := by
  simp only [World.cell?, hide_block w G b h]
theorem hide_gone (w : World) (G : Nat → Bool) (b o : Nat) (h : G b = true) : (hide w G).cell? ⟨b, o, none⟩ = none := by
  simp only [World.cell?, hide, Array.getElem?_mapIdx, h]
  cases w.heap[b]? <;> simp
theorem hide_out {w : World} {G : Nat → Bool} {b o : Nat} {u : Value} (h : (hide w G).cell? ⟨b, o, none⟩ = some u) : G b = false ∧ b < w.heap.size ∧ w.cell? ⟨b, o, none⟩ = some u := by
  cases hG : G b
  · rw [hide_cell w G b o hG] at h; exact ⟨rfl, cell_lt h, h⟩
  · rw [hide_gone w G b o hG] at h; cases h
/-- from one world with hidden blocks to another one: each block that is not hidden there is not hidden here, and the same -/
theorem Sub.hide {w w' : World} {G G' : Nat → Bool} (h : ∀ b, b < w.heap.size → G b = false → G' b = false ∧ w'.heap[b]? = w.heap[b]?) : Sub (hide w G) (hide w' G') := fun b o u hu => by
  obtain ⟨h1, h2, h3⟩ := hide_out hu
  obtain ⟨k1, k2⟩ := h b h2 h1
  rw [hide_cell w' G' b o k1]
  simp only [World.cell?, k2] at h3 ⊢
  exact h3
theorem Sub.unhide {w w' : World} {G : Nat → Bool} (h : ∀ b, b < w.heap.size → G b = false → w'.heap[b]? = w.heap[b]?) : Sub (Go.Proofs.YtmkjlhplgcifiaaGreat.hide w G) w' := fun b o u hu => by
  obtain ⟨h1, h2, h3⟩ := hide_out hu
  have k2 := h b h2 h1
  simp only [World.cell?, k2] at h3 ⊢
  exact h3
theorem Sub.show (w : World) (G : Nat → Bool) : Sub (Go.Proofs.YtmkjlhplgcifiaaGreat.hide w G) w := Sub.unhide fun _ _ _ => rfl
/-- blocks below a bound -/
def low (n : Nat) : Nat → Bool := fun b => decide (b < n)
/-- blocks below a bound, and the row of a value -/
def lowOr (n : Nat) (v : Value) : Nat → Bool := fun b => decide (b < n) || decide (v.ownBlock = some b)
theorem low_false {n b : Nat} : low n b = false ↔ n ≤ b := by simp [low]
theorem lowOr_false {n b : Nat} {v : Value} : lowOr n v b = false ↔ n ≤ b ∧ v.ownBlock ≠ some b := by simp [lowOr]
/-- memory grows: hidden as before -/
theorem Sub.grow {w w' : World} {G : Nat → Bool} (h : Below w.heap.size w w') : Sub (Go.Proofs.YtmkjlhplgcifiaaGreat.hide w G) (Go.Proofs.YtmkjlhplgcifiaaGreat.hide w' G) := Sub.hide fun b hb hG => ⟨hG, h.block b hb⟩
/-- an append to the hidden row -/
theorem Sub.app {w w' : World} {n : Nat} {v v' : Value} (h : w.grownBy w' v.ownBlock) (ha : v'.ownBlock = v.ownBlock ∨ v'.ownBlock = some w.heap.size) : Sub (Go.Proofs.YtmkjlhplgcifiaaGreat.hide w (lowOr n v)) (Go.Proofs.YtmkjlhplgcifiaaGreat.hide w' (lowOr n v')) :=
  Sub.hide fun b hb hG => by
    obtain ⟨h1, h2⟩ := lowOr_false.1 hG
    refine ⟨lowOr_false.2 ⟨h1, ?_⟩, h.block b hb (fun e => h2 e.symm)⟩
    rcases ha with e | e
    · rw [e]; exact h2
    · rw [e]; intro e'; cases e'; omega
/-- a cell of a hidden block is written -/
theorem Sub.set {w : World} {G : Nat → Bool} (p : Addr) (u : Value) (h : G p.block = true) : Sub (Go.Proofs.YtmkjlhplgcifiaaGreat.hide w G) (Go.Proofs.YtmkjlhplgcifiaaGreat.hide (w.setCell p u) G) :=
  Sub.hide fun b hb hG => ⟨hG, by
    have hne : b ≠ p.block := fun e => by rw [e, h] at hG; cases hG
    exact Below.heap_setCell _ _ _ _ hne⟩
/-- what is read above a bound is none of the row of a value below it -/
theorem Sub.up {w : World} {n m : Nat} {v : Value} (hn : n ≤ m) (hv : ∀ g, v.ownBlock = some g → g < m) : Sub (Go.Proofs.YtmkjlhplgcifiaaGreat.hide w (low m)) (Go.Proofs.YtmkjlhplgcifiaaGreat.hide w (lowOr n v)) :=
  Sub.hide fun b hb hG => ⟨lowOr_false.2 ⟨Nat.le_trans hn (low_false.1 hG), fun e => by have := hv b e; have := low_false.1 hG; omega⟩, rfl⟩
theorem Sub.low {w : World} {n m : Nat} (hn : n ≤ m) : Sub (Go.Proofs.YtmkjlhplgcifiaaGreat.hide w (low m)) (Go.Proofs.YtmkjlhplgcifiaaGreat.hide w (low n)) :=
  Sub.hide fun b hb hG => ⟨low_false.2 (Nat.le_trans hn (low_false.1 hG)), rfl⟩
theorem Sub.off {w : World} {n : Nat} {v : Value} : Sub (Go.Proofs.YtmkjlhplgcifiaaGreat.hide w (lowOr n v)) (Go.Proofs.YtmkjlhplgcifiaaGreat.hide w (Go.Proofs.YtmkjlhplgcifiaaGreat.low n)) :=
  Sub.hide fun b hb hG => ⟨low_false.2 (lowOr_false.1 hG).1, rfl⟩
theorem Sub.lower {w : World} {n m : Nat} {v : Value} (hn : n ≤ m) : Sub (Go.Proofs.YtmkjlhplgcifiaaGreat.hide w (lowOr m v)) (Go.Proofs.YtmkjlhplgcifiaaGreat.hide w (lowOr n v)) :=
  Sub.hide fun b hb hG => ⟨lowOr_false.2 ⟨Nat.le_trans hn (lowOr_false.1 hG).1, (lowOr_false.1 hG).2⟩, rfl⟩
/-- a row that is owned stays so, if its block does -/
theorem own_stay {w w1 : World} {base : Nat} {e : TypeId} {size : Nat} {v : Value} {n : Nat} {xs : List Value} (h : w.ownsRow base e size v n xs) (hb : ∀ g, v.ownBlock = some g → w1.heap[g]? = w.heap[g]?) : w1.ownsRow base e size v n xs := by
  obtain ⟨h1, h2⟩ := h
  refine ⟨h1, ?_⟩
  rcases h2 with h2 | ⟨g, cap, cur, rfl, b, c, d⟩
  · exact .inl h2
  · exact .inr ⟨g, cap, cur, rfl, b, (hb g rfl).trans c, d⟩
theorem row_set {w : World} {base : Nat} {e : TypeId} {size : Nat} {v : Value} {n : Nat} {xs : List Value} (h : w.ownsRow base e size v n xs) (p : Addr) (u : Value) (hp : p.block < base) : (w.setCell p u).ownsRow base e size v n xs :=
  own_stay h fun g hg => Below.heap_setCell _ _ _ _ (fun e => by have := (h.lt g hg).1; omega)
end Go.Proofs.YtmkjlhplgcifiaaGreat
namespace Go.Proofs.YtmkjlhplgcifiaaGreat
open Go.ChangeShapes Go.WideShapes Go.ChangeAt Go.RowKit
attribute [local simp] World.cell?_grow
attribute [local go_sem] World.cell?_grow
attribute [local go_sem] eqg_blk std_blk eqg_pod std_pod eqg_sel std_sel eqg_prt std_prt
attribute [local go_sem ↓] eql_blk eql_sel neq_sel eql_prt eql_pod
attribute [local go_sem ↓] met_in1 met_in2 met_re1 met_re2
set_option linter.unusedVariables false
set_option linter.unusedSimpArgs false
section
variable {X D : Type} {e : TypeId} {k : Nat} {enc : X → List Value} {N : Nat → World → X → Prop}
/-- v is a list of a base's own with the elements ys; what they hold lies elsewhere above the base -/
def Up (e : TypeId) (k : Nat) (enc : X → List Value) (N : Nat → World → X → Prop) (base : Nat) (w : World) (v : Value) (ys : List X) : Prop :=
  w.ownsRow base e k v ys.length (ys.flatMap enc) ∧ ∀ y ∈ ys, N w.heap.size (hide w (lowOr base v)) y
def Mono (N : Nat → World → X → Prop) : Prop := ∀ (B B' : Nat) (w w' : World) (x : X), Sub w w' → B ≤ B' → N B w x → N B' w' x
theorem Up.nil (base : Nat) (w : World) : Up e k enc N base w (.slice none 0 0) [] := ⟨World.ownsRow_nil _ _ _ _, fun y hy => by simp at hy⟩
theorem Up.grow (hN : Mono N) {base : Nat} {w w' : World} {v : Value} {ys : List X} (h : Up e k enc N base w v ys) (hb : Below w.heap.size w w') : Up e k enc N base w' v ys :=
  ⟨own_to h.1 hb, fun y hy => hN _ _ _ _ y (Sub.grow hb) hb.size (h.2 y hy)⟩
theorem Up.set (hN : Mono N) {base : Nat} {w : World} {v : Value} {ys : List X} (h : Up e k enc N base w v ys) (p : Addr) (u : Value) (hp : p.block < base) : Up e k enc N base (w.setCell p u) v ys :=
  ⟨row_set h.1 p u hp, fun y hy => hN _ _ _ _ y (Sub.set p u (by simp [lowOr, hp])) (by simp) (h.2 y hy)⟩
theorem Up.lt {base : Nat} {w : World} {v : Value} {ys : List X} (h : Up e k enc N base w v ys) : ∀ g, v.ownBlock = some g → base ≤ g ∧ g < w.heap.size := fun g hg => h.1.lt g hg
/-- an element more: what it holds lies above m, and the list below -/
theorem Up.app (hN : Mono N) {base m : Nat} {w w' : World} {v v' : Value} {ys : List X} {y : X} (h : Up e k enc N base w v ys) (hm : base ≤ m) (hv : ∀ g, v.ownBlock = some g → g < m)
    (hy : N w.heap.size (hide w (low m)) y) (ho : w'.ownsRow base e k v' (ys.length + 1) (ys.flatMap enc ++ enc y)) (hg : w.grownBy w' v.ownBlock) (ha : v'.ownBlock = v.ownBlock ∨ v'.ownBlock = some w.heap.size) :
    Up e k enc N base w' v' (ys ++ [y]) := by
  refine ⟨?_, fun z hz => ?_⟩
  · rw [List.length_append, List.flatMap_append]
    simpa using ho
  · rcases List.mem_append.1 hz with hz | hz
    · exact hN _ _ _ _ z (Sub.app hg ha) hg.size (h.2 z hz)
    · simp at hz
      subst hz
      exact hN _ _ _ _ z ((Sub.up hm hv).trans (Sub.app hg ha)) hg.size hy
theorem Up.done (hN : Mono N) {bytes base : Nat} {E : Nat → World → Nat → Nat → D → Prop} {d : X → D} {w : World} {v : Value} {ys : List X} (hk : ∀ x, (enc x).length = k) (hp : 0 < k) (h : Up e k enc N base w v ys) (hy : ys.length * bytes ≤ 140737488351232)
    (hE : ∀ (B : Nat) (w : World) (b o : Nat) (y : X), N B w y → (∀ j u, (enc y)[j]? = some u → w.cell? ⟨b, o + j, none⟩ = some u) → E B w b o (d y)) :
    ∃ a c, v = .slice a (ys.map d).length c ∧ (ys.map d).length ≤ c ∧ RdSl w.heap.size (hide w (low base)) k bytes E a (ys.map d) := by
  have ho : (hide w (low base)).ownsRow base e k v ys.length (ys.flatMap enc) := own_stay h.1 fun g hg => hide_block _ _ _ (low_false.2 (h.lt g hg).1)
  obtain ⟨a, c, e1, e2, e3⟩ := own_rd (E := fun B w b o y => E B w b o (d y)) (bytes := bytes) hk ho hp hy fun b o x hx hb hc => by
    rw [hide_size] at hb ⊢
    exact hE _ _ _ _ x (hN _ _ _ _ x Sub.off (Nat.le_refl _) (h.2 x hx)) hc
  rw [hide_size] at e3
  refine ⟨a, c, by rw [List.length_map]; exact e1, by rw [List.length_map]; exact e2, by rw [List.length_map]; exact e3.1, fun i x hx => ?_⟩
  rw [List.getElem?_map] at hx
  cases hi : ys[i]? with
  | none => rw [hi] at hx; cases hx
  | some y =>
    rw [hi] at hx
    cases hx
    exact e3.2 i y hi
end
theorem wp_append_at {P : Program} (w : World) {o : Oper} {a : Act} {K : Act → World → Prop} {Q : Exit → Act → World → Prop} (s x : Operand) (t : TypeId)
    (ho : o.op = .call { callee := .builtin .append, args := #[s, x], argTypes := #[t, t] }) (base : Nat) (e : TypeId) (i : TypeInfo) (z : Value) (size bytes : Nat) (ht : P.underlying t = some (.slice e)) (hi : P.info? e = some i) (hz : i.zero = some z)
    (hsize : i.size = size) (hby : i.bytes = bytes) (hzs : z.cells.size = size) (hsz : 0 < size) (v : Value) (n : Nat) (xs : List Value) (hs : a.eval s = v) (hown : w.ownsRow base e size v n xs)
    (ad : Addr) (m c : Nat) (news : List Value) (hx : a.eval x = .slice (some ad) m c) (hl : news.length = m * size) (hnews : ∀ j u, news[j]? = some u → w.cell? (ad.add j) = some u) (h1 : ∀ u ∈ news, u.oneCell' = true)
    (h63 : n + m ≤ maxLen) (hbytes : (n + m) * bytes ≤ 140737488355328) (hbase : base ≤ w.heap.size)
    (h : ∀ v' w', w'.ownsRow base e size v' (n + m) (xs ++ news) → w.grownBy w' v.ownBlock → (v'.ownBlock = v.ownBlock ∨ v'.ownBlock = some w.heap.size) → K (a.put o.dst v') w') : o.wp P a w K Q := by
  obtain ⟨v', w', hr, h2, h3, h4, h5⟩ := run_append_own_at (P := P) w base t o.type e i z size bytes ht hi hz hsize hby hzs hsz v n xs hown ad m c news hl hnews h1 h63 hbytes hbase
  unfold Oper.wp execOp
  simp only [ho, resolve, invoke, builtin, Sem.run_bind, Sem.run_pure, Result.andThen_ok, List.map_toArray, List.map_cons, List.map_nil, hs, hx, hr]
  exact h v' w' h2 h3 h5
end Go.Proofs.YtmkjlhplgcifiaaGreat
namespace Go.Proofs.YtmkjlhplgcifiaaGreat
set_option linter.unusedVariables false
set_option linter.unusedSimpArgs false
/-- the smaller block lies in the greater one -/
def inn (inner outer : DBlk) : Bool := decide (outer.bits ≤ inner.bits) && blkHas inner.base outer
def lowB (b : DBlk) : DBlk := ⟨b.base, b.bits + 1⟩
def highB (b : DBlk) : DBlk := ⟨b.base + pw (b.bits + 1), b.bits + 1⟩
def wout : Nat → DBlk → List DBlk → List DBlk
  | 0, _, _ => []
  | f + 1, b, ex => if ex.any (inn b) then [] else if ex.any (fun e => inn e b) then wout f (lowB b) ex ++ wout f (highB b) ex else [b]
theorem pw_split {b : DBlk} (h : blkOk b = true) (hb : b.bits < 32) : pw b.bits = 2 * pw (b.bits + 1) := pw_succ b.bits (blkOk_true.1 h).1 hb
theorem emod_of_two {a p : Int} (h : a % (2 * p) = 0) : a % p = 0 := by
  have := Int.emod_emod_of_dvd a (Int.dvd_mul_left 2 p)
  rw [h] at this; simpa using this.symm
theorem top_mul (k : Int) (h : 0 ≤ k) (h1 : k ≤ 32) : ∃ m, m * pw k = 4294967296 := by
  refine ⟨2 ^ k.toNat, ?_⟩
  unfold pw
  rw [← Int.pow_add]
  rw [show k.toNat + (32 - k).toNat = 32 by omega]
  decide
theorem low_ok {b : DBlk} (h : blkOk b = true) (hb : b.bits < 32) : blkOk (lowB b) = true := by
  have h2 := pw_split h hb
  obtain ⟨h0, h1, h3, h4, h5⟩ := blkOk_true.1 h
  refine blkOk_true.2 ⟨by show 0 ≤ b.bits + 1; omega, by show b.bits + 1 ≤ 32; omega, h3, h4, ?_⟩
  show b.base % pw (b.bits + 1) = 0
  rw [h2] at h5; exact emod_of_two h5
theorem base_room {b : DBlk} (h : blkOk b = true) : b.base + pw b.bits ≤ 4294967296 := by
  obtain ⟨h0, h1, h3, h4, h5⟩ := blkOk_true.1 h
  obtain ⟨m, hm⟩ := top_mul b.bits h0 h1
  have hp := pw_pos b.bits
  have e : b.base / pw b.bits * pw b.bits = b.base := by have := Int.ediv_mul_add_emod b.base (pw b.bits); omega
  have hlt : b.base / pw b.bits < m := by
    refine Int.lt_of_mul_lt_mul_right (a := pw b.bits) ?_ (Int.le_of_lt hp)
    omega
  have hle : (b.base / pw b.bits + 1) * pw b.bits ≤ m * pw b.bits := Int.mul_le_mul_of_nonneg_right (by omega) (Int.le_of_lt hp)
  rw [Int.add_mul] at hle
  omega
theorem high_ok {b : DBlk} (h : blkOk b = true) (hb : b.bits < 32) : blkOk (highB b) = true := by
  have h2 := pw_split h hb
  have hr := base_room h
  obtain ⟨h0, h1, h3, h4, h5⟩ := blkOk_true.1 h
  have hp := pw_pos (b.bits + 1)
  refine blkOk_true.2 ⟨by show 0 ≤ b.bits + 1; omega, by show b.bits + 1 ≤ 32; omega, by show 0 ≤ b.base + pw (b.bits + 1); omega, by show b.base + pw (b.bits + 1) ≤ 4294967295; omega, ?_⟩
  show (b.base + pw (b.bits + 1)) % pw (b.bits + 1) = 0
  rw [h2] at h5
  rw [Int.add_emod_right]; exact emod_of_two h5
/-- an address lies in a right block just when it lies between its ends -/
theorem has_iff {b : DBlk} (h : blkOk b = true) (ip : Int) : blkHas ip b = true ↔ b.base ≤ ip ∧ ip < b.base + pw b.bits := by
  obtain ⟨h0, h1, h3, h4, h5⟩ := blkOk_true.1 h
  have hp := pw_pos b.bits
  have e : b.base / pw b.bits * pw b.bits = b.base := by have := Int.ediv_mul_add_emod b.base (pw b.bits); omega
  unfold blkHas
  rw [decide_eq_true_eq]
  constructor
  · intro hd
    have h6 := Int.ediv_mul_add_emod ip (pw b.bits)
    have h7 := Int.emod_nonneg ip (show pw b.bits ≠ 0 by omega)
    have h8 := Int.emod_lt_of_pos ip hp
    rw [hd, e] at h6
    omega
  · rintro ⟨h6, h7⟩
    have h8 : ip = b.base + (ip - b.base) := by omega
    rw [h8, ← e, Int.add_comm, Int.add_mul_ediv_right _ _ (by omega), Int.ediv_eq_zero_of_lt (by omega) (by omega), Int.zero_add, e]
theorem has_split {b : DBlk} (h : blkOk b = true) (hb : b.bits < 32) (ip : Int) : blkHas ip b = (blkHas ip (lowB b) || blkHas ip (highB b)) := by
  have h2 := pw_split h hb
  have hp := pw_pos (b.bits + 1)
  rw [Bool.eq_iff_iff, Bool.or_eq_true, has_iff h, has_iff (low_ok h hb), has_iff (high_ok h hb)]
  show _ ↔ (b.base ≤ ip ∧ ip < b.base + pw (b.bits + 1)) ∨ (b.base + pw (b.bits + 1) ≤ ip ∧ ip < b.base + pw (b.bits + 1) + pw (b.bits + 1))
  omega
theorem pw_mono {j k : Int} (hj : 0 ≤ j) (h : j ≤ k) (hk : k ≤ 32) : ∃ m, 1 ≤ m ∧ pw j = m * pw k := by
  refine ⟨2 ^ (k - j).toNat, by have : (0 : Int) < 2 ^ (k - j).toNat := Int.pow_pos (by omega); omega, ?_⟩
  unfold pw
  rw [← Int.pow_add]
  rw [show (k - j).toNat + (32 - k).toNat = (32 - j).toNat by omega]
/-- a block that lies in another one: all of its addresses do -/
theorem inn_has {a b : DBlk} (ha : blkOk a = true) (hb : blkOk b = true) (h : inn a b = true) (ip : Int) (hip : blkHas ip a = true) : blkHas ip b = true := by
  unfold inn at h
  rw [Bool.and_eq_true, decide_eq_true_eq, has_iff hb] at h
  obtain ⟨hbit, h1, h2⟩ := h
  obtain ⟨a0, a1, a3, a4, a5⟩ := blkOk_true.1 ha
  obtain ⟨b0, b1, b3, b4, b5⟩ := blkOk_true.1 hb
  rw [has_iff ha] at hip
  rw [has_iff hb]
  obtain ⟨m, hm, he⟩ := pw_mono b0 hbit a1
  have hp := pw_pos a.bits
  refine ⟨by omega, ?_⟩
  -- both ends are multiples of the smaller block's size
  have ea : a.base / pw a.bits * pw a.bits = a.base := by have := Int.ediv_mul_add_emod a.base (pw a.bits); omega
  have eb : b.base / pw b.bits * pw b.bits = b.base := by have := Int.ediv_mul_add_emod b.base (pw b.bits); omega
  have eb2 : (b.base / pw b.bits * m + m) * pw a.bits = b.base + pw b.bits := by
    rw [Int.add_mul, Int.mul_assoc, ← he, eb]
  have hlt : a.base / pw a.bits < b.base / pw b.bits * m + m := by
    refine Int.lt_of_mul_lt_mul_right (a := pw a.bits) ?_ (Int.le_of_lt hp)
    rw [ea, eb2]; omega
  have hle : (a.base / pw a.bits + 1) * pw a.bits ≤ (b.base / pw b.bits * m + m) * pw a.bits := Int.mul_le_mul_of_nonneg_right (by omega) (Int.le_of_lt hp)
  rw [Int.add_mul, ea, eb2] at hle
  omega
/-- two blocks that share an address: one lies in the other -/
theorem share_inn {a b : DBlk} (ha : blkOk a = true) (hb : blkOk b = true) {ip : Int} (h1 : blkHas ip a = true) (h2 : blkHas ip b = true) : inn a b = true ∨ inn b a = true := by
  have key : ∀ {a b : DBlk}, blkOk a = true → blkOk b = true → blkHas ip a = true → blkHas ip b = true → b.bits ≤ a.bits → inn a b = true := by
    intro a b ha hb h1 h2 hbit
    obtain ⟨a0, a1, a3, a4, a5⟩ := blkOk_true.1 ha
    obtain ⟨b0, b1, b3, b4, b5⟩ := blkOk_true.1 hb
    unfold inn
    rw [Bool.and_eq_true, decide_eq_true_eq, has_iff hb]
    rw [has_iff ha] at h1
    rw [has_iff hb] at h2
    obtain ⟨m, hm, he⟩ := pw_mono b0 hbit a1
    have hp := pw_pos a.bits
    have ea : a.base / pw a.bits * pw a.bits = a.base := by have := Int.ediv_mul_add_emod a.base (pw a.bits); omega
    have eb : b.base / pw b.bits * m * pw a.bits = b.base := by rw [Int.mul_assoc, ← he]; have := Int.ediv_mul_add_emod b.base (pw b.bits); omega
    refine ⟨hbit, ?_, by omega⟩
    have hlt : b.base / pw b.bits * m < a.base / pw a.bits + 1 := by
      refine Int.lt_of_mul_lt_mul_right (a := pw a.bits) ?_ (Int.le_of_lt hp)
      rw [Int.add_mul, ea, eb]; omega
    have hle : (b.base / pw b.bits * m) * pw a.bits ≤ (a.base / pw a.bits) * pw a.bits := Int.mul_le_mul_of_nonneg_right (by omega) (Int.le_of_lt hp)
    omega
  rcases Int.le_total b.bits a.bits with h | h
  · exact .inl (key ha hb h1 h2 h)
  · exact .inr (key hb ha h2 h1 h)
/-- a block of one address in which another one lies is that one -/
theorem inn_full {a b : DBlk} (ha : blkOk a = true) (hb : blkOk b = true) (h : inn a b = true) (hbits : b.bits = 32) : inn b a = true := by
  unfold inn at h ⊢
  rw [Bool.and_eq_true, decide_eq_true_eq, has_iff hb] at h
  obtain ⟨a0, a1, _⟩ := blkOk_true.1 ha
  have e : a.bits = 32 := by omega
  have hp : pw b.bits = 1 := by rw [hbits]; rfl
  have hpa : pw a.bits = 1 := by rw [e]; rfl
  rw [Bool.and_eq_true, decide_eq_true_eq, has_iff ha]
  omega
theorem wout_ok : ∀ (f : Nat) (b : DBlk) (ex : List DBlk), blkOk b = true → ex.all blkOk = true → ∀ x ∈ wout f b ex, blkOk x = true
  | 0, _, _, _, _ => by intro x hx; simp [wout] at hx
  | f + 1, b, ex, hb, he => by
    intro x hx
    rw [wout] at hx
    by_cases h1 : ex.any (inn b) = true
    · rw [if_pos h1] at hx; simp at hx
    · rw [if_neg h1] at hx
      by_cases h2 : (ex.any fun e => inn e b) = true
      · rw [if_pos h2] at hx
        have hlt : b.bits < 32 := by
          obtain ⟨_, hb32, _⟩ := blkOk_true.1 hb
          obtain ⟨e, hem, hei⟩ := List.any_eq_true.1 h2
          rcases Int.lt_or_le b.bits 32 with h | h
          · exact h
          · exact absurd (List.any_eq_true.2 ⟨e, hem, inn_full (List.all_eq_true.1 he e hem) hb hei (by omega)⟩) h1
        rcases List.mem_append.1 hx with h | h
        · exact wout_ok f (lowB b) ex (low_ok hb hlt) he x h
        · exact wout_ok f (highB b) ex (high_ok hb hlt) he x h
      · rw [if_neg h2] at hx; simp at hx; subst hx; exact hb
theorem wout_has : ∀ (f : Nat) (b : DBlk) (ex : List DBlk) (ip : Int), blkOk b = true → ex.all blkOk = true → 33 - b.bits ≤ f → (wout f b ex).any (blkHas ip) = (blkHas ip b && !(ex.any (blkHas ip)))
  | 0, b, ex, ip, hb, _, hf => by obtain ⟨_, h, _⟩ := blkOk_true.1 hb; omega
  | f + 1, b, ex, ip, hb, he, hf => by
    rw [wout]
    by_cases h1 : ex.any (inn b) = true
    · rw [if_pos h1]
      obtain ⟨e, hem, hei⟩ := List.any_eq_true.1 h1
      cases hh : blkHas ip b
      · rfl
      · rw [List.any_eq_true.2 ⟨e, hem, inn_has hb (List.all_eq_true.1 he e hem) hei ip hh⟩]; rfl
    · rw [if_neg h1]
      by_cases h2 : (ex.any fun e => inn e b) = true
      · rw [if_pos h2]
        have hlt : b.bits < 32 := by
          obtain ⟨_, hb32, _⟩ := blkOk_true.1 hb
          obtain ⟨e, hem, hei⟩ := List.any_eq_true.1 h2
          rcases Int.lt_or_le b.bits 32 with h | h
          · exact h
          · exact absurd (List.any_eq_true.2 ⟨e, hem, inn_full (List.all_eq_true.1 he e hem) hb hei (by omega)⟩) h1
        rw [List.any_append, wout_has f (lowB b) ex ip (low_ok hb hlt) he (by show 33 - (b.bits + 1) ≤ _; omega), wout_has f (highB b) ex ip (high_ok hb hlt) he (by show 33 - (b.bits + 1) ≤ _; omega), has_split hb hlt ip, Bool.and_or_distrib_right]
      · rw [if_neg h2]
        cases hh : blkHas ip b
        · simp [hh]
        · have : ex.any (blkHas ip) = false := by
            rw [Bool.eq_false_iff]
            intro h3
            obtain ⟨e, hem, hei⟩ := List.any_eq_true.1 h3
            rcases share_inn hb (List.all_eq_true.1 he e hem) hh hei with h | h
            · exact h1 (List.any_eq_true.2 ⟨e, hem, h⟩)
            · exact h2 (List.any_eq_true.2 ⟨e, hem, h⟩)
          simp [hh, this]
/-- how often an except that lies in a block halves it -/
def dep (b e : DBlk) : Nat := if inn e b then (e.bits - b.bits).toNat else 0
theorem dep_split {b e : DBlk} (hb : blkOk b = true) (he : blkOk e = true) (hlt : b.bits < 32) : dep (lowB b) e + dep (highB b) e + (if inn e b && !inn b e then 1 else 0) ≤ dep b e := by
  have h2 := pw_split hb hlt
  have hp := pw_pos (b.bits + 1)
  unfold dep
  have iff1 : inn e (lowB b) = true ↔ b.bits + 1 ≤ e.bits ∧ b.base ≤ e.base ∧ e.base < b.base + pw (b.bits + 1) := by
    unfold inn; rw [Bool.and_eq_true, decide_eq_true_eq, has_iff (low_ok hb hlt)]; rfl
  have iff2 : inn e (highB b) = true ↔ b.bits + 1 ≤ e.bits ∧ b.base + pw (b.bits + 1) ≤ e.base ∧ e.base < b.base + pw (b.bits + 1) + pw (b.bits + 1) := by
    unfold inn; rw [Bool.and_eq_true, decide_eq_true_eq, has_iff (high_ok hb hlt)]; rfl
  have iff0 : inn e b = true ↔ b.bits ≤ e.bits ∧ b.base ≤ e.base ∧ e.base < b.base + pw b.bits := by
    unfold inn; rw [Bool.and_eq_true, decide_eq_true_eq, has_iff hb]
  have l1 : (lowB b).bits = b.bits + 1 := rfl
  have l2 : (highB b).bits = b.bits + 1 := rfl
  rw [l1, l2]
  by_cases h0 : inn e b = true
  · rw [if_pos h0]
    by_cases hs : inn b e = true
    · simp only [h0, hs, Bool.not_true, Bool.and_false, Bool.false_eq_true, if_false]
      have : e.bits ≤ b.bits := by unfold inn at hs; rw [Bool.and_eq_true, decide_eq_true_eq] at hs; exact hs.1
      have n1 : ¬ inn e (lowB b) = true := fun h => by have := iff1.1 h; omega
      have n2 : ¬ inn e (highB b) = true := fun h => by have := iff2.1 h; omega
      rw [if_neg n1, if_neg n2]; omega
    · have hs' : inn b e = false := by simpa using hs
      simp only [h0, hs', Bool.not_false, Bool.and_true, if_true]
      have hk := iff0.1 h0
      have hne : b.bits < e.bits := by
        rcases Int.lt_or_le b.bits e.bits with h | h
        · exact h
        · exfalso
          have eb : e.bits = b.bits := by omega
          obtain ⟨e0, e1, e3, e4, e5⟩ := blkOk_true.1 he
          apply hs
          rcases share_inn (ip := e.base) he hb ((has_iff he _).2 ⟨Int.le_refl _, by have := pw_pos e.bits; omega⟩) ((has_iff hb _).2 ⟨hk.2.1, hk.2.2⟩) with h' | h'
          · have ha : blkHas e.base b = true := (has_iff hb _).2 ⟨hk.2.1, hk.2.2⟩
            unfold inn
            rw [Bool.and_eq_true, decide_eq_true_eq]
            refine ⟨by omega, ?_⟩
            unfold blkHas at ha ⊢
            rw [decide_eq_true_eq] at ha ⊢
            rw [eb]; exact ha.symm
          · exact h'
      by_cases c : e.base < b.base + pw (b.bits + 1)
      · have n2 : ¬ inn e (highB b) = true := fun h => by have := iff2.1 h; omega
        rw [if_neg n2, if_pos (iff1.2 ⟨by omega, hk.2.1, c⟩)]; omega
      · have n1 : ¬ inn e (lowB b) = true := fun h => by have := iff1.1 h; omega
        rw [if_neg n1, if_pos (iff2.2 ⟨by omega, by omega, by omega⟩)]; omega
  · rw [if_neg h0]
    have n1 : ¬ inn e (lowB b) = true := fun h => h0 (iff0.2 (by have := iff1.1 h; omega))
    have n2 : ¬ inn e (highB b) = true := fun h => h0 (iff0.2 (by have := iff2.1 h; omega))
    have h0' : inn e b = false := by simpa using h0
    rw [if_neg n1, if_neg n2]; simp [h0']
def deps (b : DBlk) : List DBlk → Nat
  | [] => 0
  | e :: l => dep b e + deps b l
theorem deps_split {b : DBlk} (hb : blkOk b = true) (hlt : b.bits < 32) : ∀ l : List DBlk, l.all blkOk = true → l.any (inn b) = false → deps (lowB b) l + deps (highB b) l + (if (l.any fun e => inn e b) then 1 else 0) ≤ deps b l
  | [], _, _ => by simp [deps]
  | e :: l, he, hn => by
    rw [List.all_cons, Bool.and_eq_true] at he
    rw [List.any_cons, Bool.or_eq_false_iff] at hn
    have h1 := dep_split hb he.1 hlt
    have h2 := deps_split hb hlt l he.2 hn.2
    rw [hn.1] at h1
    simp only [Bool.not_false, Bool.and_true] at h1
    simp only [deps]
    by_cases hc : inn e b = true
    · rw [if_pos hc] at h1
      rw [if_pos (by simp [hc])]
      split at h2 <;> omega
    · rw [if_neg hc] at h1
      by_cases hd : (l.any fun e => inn e b) = true
      · rw [if_pos hd] at h2
        rw [if_pos (by simp [hd])]; omega
      · rw [if_neg hd] at h2
        rw [if_neg (by rw [List.any_cons, Bool.or_eq_true, not_or]; exact ⟨hc, hd⟩)]; omega
theorem wout_len : ∀ (f : Nat) (b : DBlk) (ex : List DBlk), blkOk b = true → ex.all blkOk = true → (wout f b ex).length ≤ 1 + deps b ex
  | 0, _, _, _, _ => by simp [wout]
  | f + 1, b, ex, hb, he => by
    rw [wout]
    by_cases h1 : ex.any (inn b) = true
    · rw [if_pos h1]; simp
    · rw [if_neg h1]
      by_cases h2 : (ex.any fun e => inn e b) = true
      · rw [if_pos h2]
        have hlt : b.bits < 32 := by
          obtain ⟨_, hb32, _⟩ := blkOk_true.1 hb
          obtain ⟨e, hem, hei⟩ := List.any_eq_true.1 h2
          rcases Int.lt_or_le b.bits 32 with h | h
          · exact h
          · exact absurd (List.any_eq_true.2 ⟨e, hem, inn_full (List.all_eq_true.1 he e hem) hb hei (by omega)⟩) h1
        have a1 := wout_len f (lowB b) ex (low_ok hb hlt) he
        have a2 := wout_len f (highB b) ex (high_ok hb hlt) he
        have a3 := deps_split hb hlt ex he (by simpa using h1)
        rw [h2, if_pos rfl] at a3
        rw [List.length_append]; omega
      · rw [if_neg h2]; simp
theorem deps_le {b : DBlk} (hb : blkOk b = true) : ∀ l : List DBlk, l.all blkOk = true → deps b l ≤ 32 * l.length
  | [], _ => by simp [deps]
  | e :: l, he => by
    rw [List.all_cons, Bool.and_eq_true] at he
    have := deps_le hb l he.2
    have h1 := (blkOk_true.1 hb).1
    have h2 := (blkOk_true.1 he.1).2.1
    simp only [deps, List.length_cons, dep]
    split <;> omega
theorem wout_le (f : Nat) {b : DBlk} {ex : List DBlk} (hb : blkOk b = true) (he : ex.all blkOk = true) (hl : ex.length ≤ 2) : (wout f b ex).length ≤ 65 := by
  have h1 := wout_len f b ex hb he
  have h2 := deps_le hb ex he
  omega
end Go.Proofs.YtmkjlhplgcifiaaGreat
