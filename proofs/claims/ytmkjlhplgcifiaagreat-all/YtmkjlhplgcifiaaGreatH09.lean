/-
  append(x, y...): what is appended may be nil.
-/
import Derived.Test.YtmkjlhplgcifiaaGreatH04
import Derived.Laws.Append
import Derived.Laws.AppendOwn
import Derived.Maps.AppendAt
namespace Go.Proofs.YtmkjlhplgcifiaaGreat
open Go.ChangeShapes Go.WideShapes Go.ChangeAt Go.RowKit
set_option linter.unusedVariables false
set_option linter.unusedSimpArgs false
theorem run_append_none {P : Program} (w : World) (t ty e : TypeId) (i : TypeInfo) (ht : P.underlying t = some (.slice e)) (hi : P.info? e = some i) (s : Option Addr) (n cap c : Nat) (hc : n ≤ cap) :
    (Builtin.append_ #[t, t] ty #[.slice s n cap, .slice none 0 c]).run P w = .ok (.slice s n cap) w := by
  cases s with
  | none => simp [Builtin.append_, run_underlying ht, sizeOf, typeInfo, hi, Builtin.lenOf, hc, run_firstCells_none]
  | some a => simp [Builtin.append_, run_underlying ht, sizeOf, typeInfo, hi, Builtin.lenOf, hc, run_firstCells_none, storeCells]
theorem run_append_list {P : Program} (w : World) (base : Nat) (t ty e : TypeId) (i : TypeInfo) (z : Value) (size bytes : Nat) (ht : P.underlying t = some (.slice e)) (hi : P.info? e = some i) (hz : i.zero = some z)
    (hsize : i.size = size) (hby : i.bytes = bytes) (hzs : z.cells.size = size) (hsz : 0 < size) (v : Value) (n : Nat) (xs : List Value) (hown : w.ownsRow base e size v n xs)
    (s : Option Addr) (m c : Nat) (news : List Value) (hl : news.length = m * size) (hnews : ∀ j u, news[j]? = some u → ∃ b o, s = some ⟨b, o, none⟩ ∧ w.cell? ⟨b, o + j, none⟩ = some u) (h1 : ∀ u ∈ news, u.oneCell' = true)
    (h63 : n + m ≤ maxLen) (hbytes : (n + m) * bytes ≤ 140737488355328) (hbase : base ≤ w.heap.size) :
    ∃ v' w', (Builtin.append_ #[t, t] ty #[v, .slice s m c]).run P w = .ok v' w' ∧ w'.ownsRow base e size v' (n + m) (xs ++ news) ∧ w.grownBy w' v.ownBlock := by
  cases s with
  | none =>
    have hn : news = [] := by
      cases news with
      | nil => rfl
      | cons u l => obtain ⟨b, o, h, _⟩ := hnews 0 u rfl; cases h
    subst hn
    have hm : m = 0 := by
      have : m * size = 0 := by simpa using hl.symm
      rcases Nat.mul_eq_zero.1 this with h | h <;> omega
    subst hm
    obtain ⟨a, cap, rfl, hc, _⟩ := own_slice hown
    exact ⟨_, w, run_append_none w t ty e i ht hi a n cap c hc, by simpa using hown, ⟨rfl, rfl, rfl, Nat.le_refl _, fun _ _ _ => rfl⟩⟩
  | some ad =>
    by_cases h0 : news = []
    · subst h0
      have hm : m = 0 := by
        have : m * size = 0 := by simpa using hl.symm
        rcases Nat.mul_eq_zero.1 this with h | h <;> omega
      subst hm
      obtain ⟨v', w', h2, h3, h4, _⟩ := run_append_own w base t ty e i z size bytes ht hi hz hsize hby hzs hsz v n xs hown ad 0 c [] (by simp) (fun j u h => by simp at h) (fun u h => by simp at h) h63 hbytes hbase
      exact ⟨v', w', h2, h3, h4⟩
    · have hads : ∃ b o, ad = ⟨b, o, none⟩ := by
        cases news with
        | nil => exact absurd rfl h0
        | cons u l => obtain ⟨b, o, h, _⟩ := hnews 0 u rfl; exact ⟨b, o, by cases h; rfl⟩
      obtain ⟨b, o, rfl⟩ := hads
      obtain ⟨v', w', h2, h3, h4, _⟩ := run_append_own w base t ty e i z size bytes ht hi hz hsize hby hzs hsz v n xs hown ⟨b, o, none⟩ m c news hl (fun j u h => by
        obtain ⟨b', o', e', hcell⟩ := hnews j u h
        cases e'
        rw [show ((⟨b, o, none⟩ : Addr).add j) = ⟨b, o + j, none⟩ by unfold Addr.add; split <;> simp_all]
        exact hcell) h1 h63 hbytes hbase
      exact ⟨v', w', h2, h3, h4⟩
theorem wp_append_list {P : Program} (w : World) {o : Oper} {a : Act} {K : Act → World → Prop} {Q : Exit → Act → World → Prop} (s x : Operand) (t : TypeId)
    (ho : o.op = .call { callee := .builtin .append, args := #[s, x], argTypes := #[t, t] }) (base : Nat) (e : TypeId) (i : TypeInfo) (z : Value) (size bytes : Nat) (ht : P.underlying t = some (.slice e)) (hi : P.info? e = some i) (hz : i.zero = some z)
    (hsize : i.size = size) (hby : i.bytes = bytes) (hzs : z.cells.size = size) (hsz : 0 < size) (v : Value) (n : Nat) (xs : List Value) (hs : a.eval s = v) (hown : w.ownsRow base e size v n xs)
    (sl : Option Addr) (m c : Nat) (news : List Value) (hx : a.eval x = .slice sl m c) (hl : news.length = m * size) (hnews : ∀ j u, news[j]? = some u → ∃ b o, sl = some ⟨b, o, none⟩ ∧ w.cell? ⟨b, o + j, none⟩ = some u) (h1 : ∀ u ∈ news, u.oneCell' = true)
    (h63 : n + m ≤ maxLen) (hbytes : (n + m) * bytes ≤ 140737488355328) (hbase : base ≤ w.heap.size)
    (h : ∀ v' w', w'.ownsRow base e size v' (n + m) (xs ++ news) → w.grownBy w' v.ownBlock → K (a.put o.dst v') w') : o.wp P a w K Q := by
  obtain ⟨v', w', h2, h3, h4⟩ := run_append_list (P := P) w base t o.type e i z size bytes ht hi hz hsize hby hzs hsz v n xs hown sl m c news hl hnews h1 h63 hbytes hbase
  unfold Oper.wp execOp
  simp only [ho, resolve, invoke, builtin, Sem.run_bind, Sem.run_pure, Result.andThen_ok, List.map_toArray, List.map_cons, List.map_nil, hs, hx, h2]
  exact h v' w' h3 h4
theorem wpList_append_list {P : Program} (w : World) {ops : Array Oper} {rest : List Oper} {o : Oper} {a : Act} {Q : Exit → Act → World → Prop} (hgd : o.guard = none) (s x : Operand) (t : TypeId)
    (ho : o.op = .call { callee := .builtin .append, args := #[s, x], argTypes := #[t, t] }) (base : Nat) (e : TypeId) (i : TypeInfo) (z : Value) (size bytes : Nat) (ht : P.underlying t = some (.slice e)) (hi : P.info? e = some i) (hz : i.zero = some z)
    (hsize : i.size = size) (hby : i.bytes = bytes) (hzs : z.cells.size = size) (hsz : 0 < size) (v : Value) (n : Nat) (xs : List Value) (hs : a.eval s = v) (hown : w.ownsRow base e size v n xs)
    (sl : Option Addr) (m c : Nat) (news : List Value) (hx : a.eval x = .slice sl m c) (hl : news.length = m * size) (hnews : ∀ j u, news[j]? = some u → ∃ b o, sl = some ⟨b, o, none⟩ ∧ w.cell? ⟨b, o + j, none⟩ = some u) (h1 : ∀ u ∈ news, u.oneCell' = true)
    (h63 : n + m ≤ maxLen) (hbytes : (n + m) * bytes ≤ 140737488355328) (hbase : base ≤ w.heap.size)
    (h : ∀ v' w', w'.ownsRow base e size v' (n + m) (xs ++ news) → w.grownBy w' v.ownBlock → wpList P ops Q rest (a.put o.dst v') w') : wpList P ops Q (o :: rest) a w :=
  wpList_plain hgd fun _ hK => wp_append_list w s x t ho base e i z size bytes ht hi hz hsize hby hzs hsz v n xs hs hown sl m c news hx hl hnews h1 h63 hbytes hbase fun v' w' h2 h3 => hK _ _ (h v' w' h2 h3)
theorem step_append_list {P : Program} (w : World) {ops : Array Oper} {o : Oper} {a : Act} {K : Act → World → Prop} {Q : Exit → Act → World → Prop} {E : Prop} (hgd : o.guard = none) (s x : Operand) (t : TypeId)
    (ho : o.op = .call { callee := .builtin .append, args := #[s, x], argTypes := #[t, t] }) (base : Nat) (e : TypeId) (i : TypeInfo) (z : Value) (size bytes : Nat) (ht : P.underlying t = some (.slice e)) (hi : P.info? e = some i) (hz : i.zero = some z)
    (hsize : i.size = size) (hby : i.bytes = bytes) (hzs : z.cells.size = size) (hsz : 0 < size) (v : Value) (n : Nat) (xs : List Value) (hs : a.eval s = v) (hown : w.ownsRow base e size v n xs)
    (sl : Option Addr) (m c : Nat) (news : List Value) (hx : a.eval x = .slice sl m c) (hl : news.length = m * size) (hnews : ∀ j u, news[j]? = some u → ∃ b o, sl = some ⟨b, o, none⟩ ∧ w.cell? ⟨b, o + j, none⟩ = some u) (h1 : ∀ u ∈ news, u.oneCell' = true)
    (h63 : n + m ≤ maxLen) (hbytes : (n + m) * bytes ≤ 140737488355328) (hbase : base ≤ w.heap.size)
    (h : ∀ v' w', w'.ownsRow base e size v' (n + m) (xs ++ news) → w.grownBy w' v.ownBlock → K (a.put o.dst v') w') :
    if Region.wanted o (yielded ops a.tmps) = true then Oper.wp P o a w K Q else E := by
  have hw : Region.wanted o (yielded ops a.tmps) = true := by simp [Region.wanted, hgd]
  rw [if_pos hw]
  exact wp_append_list w s x t ho base e i z size bytes ht hi hz hsize hby hzs hsz v n xs hs hown sl m c news hx hl hnews h1 h63 hbytes hbase h
theorem own_built (W : World) (cs : List Value) (base : Nat) (e : TypeId) (size n : Nat) (hb : base ≤ W.heap.size) (hl : cs.length = n * size) (hn : n ≤ maxLen) : (W.alloc (.cells cs.toArray e)).ownsRow base e size (.slice (some ⟨W.heap.size, 0, none⟩) n n) n cs :=
  ⟨hl, .inr ⟨W.heap.size, n, cs.toArray, rfl, hb, (by show (W.heap.push _)[W.heap.size]? = _; simp), Nat.le_refl _, hn, by simpa using hl, by simp [← hl]⟩⟩
theorem news_of {α : Type} {w : World} {B k bytes : Nat} {E : Nat → World → Nat → Nat → α → Prop} {enc : α → List Value} {a : Option Addr} {l : List α} (hk : ∀ x, (enc x).length = k) (hp : 0 < k) (h : RdSl B w k bytes E a l)
    (hE : ∀ b o x, E B w b o x → ∀ j u, (enc x)[j]? = some u → w.cell? ⟨b, o + j, none⟩ = some u) : ∀ j u, (l.flatMap enc)[j]? = some u → ∃ b o, a = some ⟨b, o, none⟩ ∧ w.cell? ⟨b, o + j, none⟩ = some u := by
  intro j u hj
  have hjl : j < l.length * k := by rw [← oflat_len hk l]; exact (List.getElem?_eq_some_iff.1 hj).1
  have hi : j / k < l.length := (Nat.div_lt_iff_lt_mul hp).2 hjl
  obtain ⟨x, hx⟩ : ∃ x, l[j / k]? = some x := ⟨l[j / k], List.getElem?_eq_getElem hi⟩
  have hm : j % k < k := Nat.mod_lt _ hp
  have h1 := oflat_get hk l (j / k) x (j % k) hx hm
  rw [Nat.div_add_mod' j k, hj] at h1
  obtain ⟨b, off, e, _, he⟩ := h.2 (j / k) x hx
  refine ⟨b, off, e, ?_⟩
  have := hE _ _ _ he (j % k) u h1.symm
  rwa [Nat.add_assoc, Nat.div_add_mod' j k] at this
theorem eBlk_cells {B : Nat} {w : World} {b o : Nat} {x : DBlk} (h : eBlk B w b o x) : ∀ j u, (encBlk x)[j]? = some u → w.cell? ⟨b, o + j, none⟩ = some u
  | 0, u, hj => by simp [encBlk] at hj; subst hj; exact h.1
  | 1, u, hj => by simp [encBlk] at hj; subst hj; exact h.2
  | j + 2, u, hj => by simp [encBlk] at hj
structure Inv (W0 : World) (v0 : Value) (W : World) (v : Value) : Prop where
  gr : W0.grownBy W v0.ownBlock
  lie : ∀ g, v.ownBlock = some g → v0.ownBlock = some g ∨ W0.heap.size ≤ g
theorem Inv.refl (W : World) (v : Value) : Inv W v W v := ⟨⟨rfl, rfl, rfl, Nat.le_refl _, fun _ _ _ => rfl⟩, fun _ h => .inl h⟩
theorem Inv.ext {W0 W W' : World} {v0 v : Value} (h : Inv W0 v0 W v) (hb : Below W.heap.size W W') : Inv W0 v0 W' v :=
  ⟨⟨hb.os.trans h.gr.os, hb.tape.trans h.gr.tape, hb.output.trans h.gr.output, Nat.le_trans h.gr.size hb.size, fun k hk hne => (hb.block k (Nat.lt_of_lt_of_le hk h.gr.size)).trans (h.gr.block k hk hne)⟩, h.lie⟩
theorem Inv.trans {W0 W1 W2 : World} {v0 v1 v2 : Value} (h : Inv W0 v0 W1 v1) (k : Inv W1 v1 W2 v2) : Inv W0 v0 W2 v2 := by
  refine ⟨⟨k.gr.os.trans h.gr.os, k.gr.tape.trans h.gr.tape, k.gr.output.trans h.gr.output, Nat.le_trans h.gr.size k.gr.size, fun b hb hne => ?_⟩, fun g hg => ?_⟩
  · refine (k.gr.block b (Nat.lt_of_lt_of_le hb h.gr.size) (fun e => ?_)).trans (h.gr.block b hb hne)
    rcases h.lie b e.symm with e' | e'
    · exact hne e'.symm
    · omega
  · rcases k.lie g hg with e | e
    · exact h.lie g e
    · exact .inr (Nat.le_trans h.gr.size e)
theorem Inv.app {W w3 : World} {v v' : Value} (hg : W.grownBy w3 v.ownBlock) (ha : v'.ownBlock = v.ownBlock ∨ v'.ownBlock = some W.heap.size) : Inv W v w3 v' :=
  ⟨hg, fun g h => by
    rcases ha with e | e
    · exact .inl (e ▸ h)
    · rw [e] at h; cases h; exact .inr (Nat.le_refl _)⟩
theorem Inv.cell {W0 W : World} {v0 v : Value} (h : Inv W0 v0 W v) {b o : Nat} {u : Value} (hne : v0.ownBlock ≠ some b) (hc : W0.cell? ⟨b, o, none⟩ = some u) : W.cell? ⟨b, o, none⟩ = some u := h.gr.cell hc (fun e => hne e.symm)
theorem Inv.low {W0 W Wb : World} {v0 v : Value} {B : Nat} {e : TypeId} {size n : Nat} {xs : List Value} (h : Inv W0 v0 W v) (ho : Wb.ownsRow B e size v0 n xs) (hB : B ≤ W0.heap.size) : Below B W0 W :=
  (Below.refl B W0).grown h.gr hB (fun k hk => (ho.lt k hk).1)
theorem own_ne {w : World} {B : Nat} {e : TypeId} {size : Nat} {v : Value} {n : Nat} {xs : List Value} (h : w.ownsRow B e size v n xs) {b : Nat} (hb : b < B ∨ w.heap.size ≤ b) : v.ownBlock ≠ some b := fun e => by
  have := h.lt b e; omega
end Go.Proofs.YtmkjlhplgcifiaaGreat
namespace Go.Proofs.YtmkjlhplgcifiaaGreat
open Go.ChangeShapes Go.WideShapes Go.ChangeAt Go.RowKit
set_option linter.unusedVariables false
set_option linter.unusedSimpArgs false
attribute [local simp] World.cell?_grow
attribute [local go_sem] World.cell?_grow eqg_blk std_blk eqg_pod std_pod eqg_sel std_sel eqg_prt std_prt
attribute [local go_sem ↓] eql_blk eql_sel neq_sel eql_prt eql_pod met_in1 met_in2 met_re1 met_re2
def Sub (w w' : World) : Prop := ∀ b o u, w.cell? ⟨b, o, none⟩ = some u → w'.cell? ⟨b, o, none⟩ = some u
theorem Sub.refl (w : World) : Sub w w := fun _ _ _ h => h
theorem Sub.trans {a b c : World} (h : Sub a b) (k : Sub b c) : Sub a c := fun b o u hu => k b o u (h b o u hu)
theorem rdBlks.sub {B B' : Nat} {w w' : World} (hs : Sub w w') (hB : B ≤ B') {a : Option Addr} {l : List DBlk} (h : rdBlks B w a l) : rdBlks B' w' a l :=
  RdSl.ext h hB fun b o x _ ⟨h0, h1⟩ => ⟨hs _ _ _ h0, hs _ _ _ h1⟩
theorem rdPods.sub {B B' : Nat} {w w' : World} (hs : Sub w w') (hB : B ≤ B') {a : Option Addr} {l : List DPod} (h : rdPods B w a l) : rdPods B' w' a l :=
  RdSl.ext h hB fun b o x _ ⟨h0, h1, h2, h3⟩ => ⟨hs _ _ _ h0, hs _ _ _ h1, hs _ _ _ h2, hs _ _ _ h3⟩
theorem rdPorts.sub {B B' : Nat} {w w' : World} (hs : Sub w w') (hB : B ≤ B') {a : Option Addr} {l : List DPort} (h : rdPorts B w a l) : rdPorts B' w' a l :=
  RdSl.ext h hB fun b o x _ ⟨h0, h1, h2⟩ => ⟨hs _ _ _ h0, hs _ _ _ h1, hs _ _ _ h2⟩
theorem rdPeers.sub {B B' : Nat} {w w' : World} (hs : Sub w w') (hB : B ≤ B') {a : Option Addr} {l : List DPeer} (h : rdPeers B w a l) : rdPeers B' w' a l :=
  RdSl.ext h hB fun b o x _ ⟨h0, h1, h2, h3, h4, h5, a, c, h6, h7⟩ => ⟨hs _ _ _ h0, hs _ _ _ h1, hs _ _ _ h2, hs _ _ _ h3, hs _ _ _ h4, hs _ _ _ h5, a, c, hs _ _ _ h6, rdBlks.sub hs hB h7⟩
theorem rdRules.sub {B B' : Nat} {w w' : World} (hs : Sub w w') (hB : B ≤ B') {a : Option Addr} {l : List DRule} (h : rdRules B w a l) : rdRules B' w' a l :=
  RdSl.ext h hB fun b o x _ ⟨⟨a, c, h0, h1⟩, a', c', h2, h3⟩ => ⟨⟨a, c, hs _ _ _ h0, rdPeers.sub hs hB h1⟩, a', c', hs _ _ _ h2, rdPorts.sub hs hB h3⟩
theorem rdPols.sub {B B' : Nat} {w w' : World} (hs : Sub w w') (hB : B ≤ B') {a : Option Addr} {l : List DPol} (h : rdPols B w a l) : rdPols B' w' a l :=
  RdSl.ext h hB fun b o x _ ⟨h0, h1, h2, h3, ⟨a, c, h4, h5⟩, a', c', h6, h7⟩ => ⟨hs _ _ _ h0, hs _ _ _ h1, hs _ _ _ h2, hs _ _ _ h3, ⟨a, c, hs _ _ _ h4, rdRules.sub hs hB h5⟩, a', c', hs _ _ _ h6, rdRules.sub hs hB h7⟩
def hide (w : World) (G : Nat → Bool) : World := { w with heap := w.heap.mapIdx fun i o => if G i then .cells #[] 0 else o }
theorem hide_size (w : World) (G : Nat → Bool) : (hide w G).heap.size = w.heap.size := by simp [hide]
theorem hide_block (w : World) (G : Nat → Bool) (b : Nat) (h : G b = false) : (hide w G).heap[b]? = w.heap[b]? := by
  simp only [hide, Array.getElem?_mapIdx, h]
  cases w.heap[b]? <;> simp
theorem hide_cell (w : World) (G : Nat → Bool) (b o : Nat) (h : G b = false) : (hide w G).cell? ⟨b, o, none⟩ = w.cell? ⟨b, o, none⟩ := by
  simp only [World.cell?, hide_block w G b h]
theorem hide_gone (w : World) (G : Nat → Bool) (b o : Nat) (h : G b = true) : (hide w G).cell? ⟨b, o, none⟩ = none := by
  simp only [World.cell?, hide, Array.getElem?_mapIdx, h]
  cases w.heap[b]? <;> simp
theorem hide_out {w : World} {G : Nat → Bool} {b o : Nat} {u : Value} (h : (hide w G).cell? ⟨b, o, none⟩ = some u) : G b = false ∧ b < w.heap.size ∧ w.cell? ⟨b, o, none⟩ = some u := by
  cases hG : G b
  · rw [hide_cell w G b o hG] at h; exact ⟨rfl, cell_lt h, h⟩
  · rw [hide_gone w G b o hG] at h; cases h
theorem Sub.hide {w w' : World} {G G' : Nat → Bool} (h : ∀ b, b < w.heap.size → G b = false → G' b = false ∧ w'.heap[b]? = w.heap[b]?) : Sub (hide w G) (hide w' G') := fun b o u hu => by
  obtain ⟨h1, h2, h3⟩ := hide_out hu
  obtain ⟨k1, k2⟩ := h b h2 h1
  rw [hide_cell w' G' b o k1]
  simp only [World.cell?, k2] at h3 ⊢
  exact h3
theorem Sub.unhide {w w' : World} {G : Nat → Bool} (h : ∀ b, b < w.heap.size → G b = false → w'.heap[b]? = w.heap[b]?) : Sub (Go.Proofs.YtmkjlhplgcifiaaGreat.hide w G) w' := fun b o u hu => by
  obtain ⟨h1, h2, h3⟩ := hide_out hu
  have k2 := h b h2 h1
  simp only [World.cell?, k2] at h3 ⊢
  exact h3
theorem Sub.show (w : World) (G : Nat → Bool) : Sub (Go.Proofs.YtmkjlhplgcifiaaGreat.hide w G) w := Sub.unhide fun _ _ _ => rfl
def low (n : Nat) : Nat → Bool := fun b => decide (b < n)
def lowOr (n : Nat) (v : Value) : Nat → Bool := fun b => decide (b < n) || decide (v.ownBlock = some b)
theorem low_false {n b : Nat} : low n b = false ↔ n ≤ b := by simp [low]
theorem lowOr_false {n b : Nat} {v : Value} : lowOr n v b = false ↔ n ≤ b ∧ v.ownBlock ≠ some b := by simp [lowOr]
theorem Sub.grow {w w' : World} {G : Nat → Bool} (h : Below w.heap.size w w') : Sub (Go.Proofs.YtmkjlhplgcifiaaGreat.hide w G) (Go.Proofs.YtmkjlhplgcifiaaGreat.hide w' G) := Sub.hide fun b hb hG => ⟨hG, h.block b hb⟩
theorem Sub.app {w w' : World} {n : Nat} {v v' : Value} (h : w.grownBy w' v.ownBlock) (ha : v'.ownBlock = v.ownBlock ∨ v'.ownBlock = some w.heap.size) : Sub (Go.Proofs.YtmkjlhplgcifiaaGreat.hide w (lowOr n v)) (Go.Proofs.YtmkjlhplgcifiaaGreat.hide w' (lowOr n v')) :=
  Sub.hide fun b hb hG => by
    obtain ⟨h1, h2⟩ := lowOr_false.1 hG
    refine ⟨lowOr_false.2 ⟨h1, ?_⟩, h.block b hb (fun e => h2 e.symm)⟩
    rcases ha with e | e
    · rw [e]; exact h2
    · rw [e]; intro e'; cases e'; omega
theorem Sub.set {w : World} {G : Nat → Bool} (p : Addr) (u : Value) (h : G p.block = true) : Sub (Go.Proofs.YtmkjlhplgcifiaaGreat.hide w G) (Go.Proofs.YtmkjlhplgcifiaaGreat.hide (w.setCell p u) G) :=
  Sub.hide fun b hb hG => ⟨hG, by
    have hne : b ≠ p.block := fun e => by rw [e, h] at hG; cases hG
    exact Below.heap_setCell _ _ _ _ hne⟩
theorem Sub.up {w : World} {n m : Nat} {v : Value} (hn : n ≤ m) (hv : ∀ g, v.ownBlock = some g → g < m) : Sub (Go.Proofs.YtmkjlhplgcifiaaGreat.hide w (low m)) (Go.Proofs.YtmkjlhplgcifiaaGreat.hide w (lowOr n v)) :=
  Sub.hide fun b hb hG => ⟨lowOr_false.2 ⟨Nat.le_trans hn (low_false.1 hG), fun e => by have := hv b e; have := low_false.1 hG; omega⟩, rfl⟩
theorem Sub.low {w : World} {n m : Nat} (hn : n ≤ m) : Sub (Go.Proofs.YtmkjlhplgcifiaaGreat.hide w (low m)) (Go.Proofs.YtmkjlhplgcifiaaGreat.hide w (low n)) :=
  Sub.hide fun b hb hG => ⟨low_false.2 (Nat.le_trans hn (low_false.1 hG)), rfl⟩
theorem Sub.off {w : World} {n : Nat} {v : Value} : Sub (Go.Proofs.YtmkjlhplgcifiaaGreat.hide w (lowOr n v)) (Go.Proofs.YtmkjlhplgcifiaaGreat.hide w (Go.Proofs.YtmkjlhplgcifiaaGreat.low n)) :=
  Sub.hide fun b hb hG => ⟨low_false.2 (lowOr_false.1 hG).1, rfl⟩
theorem own_stay {w w1 : World} {base : Nat} {e : TypeId} {size : Nat} {v : Value} {n : Nat} {xs : List Value} (h : w.ownsRow base e size v n xs) (hb : ∀ g, v.ownBlock = some g → w1.heap[g]? = w.heap[g]?) : w1.ownsRow base e size v n xs := by
  obtain ⟨h1, h2⟩ := h
  refine ⟨h1, ?_⟩
  rcases h2 with h2 | ⟨g, cap, cur, rfl, b, c, d⟩
  · exact .inl h2
  · exact .inr ⟨g, cap, cur, rfl, b, (hb g rfl).trans c, d⟩
theorem row_set {w : World} {base : Nat} {e : TypeId} {size : Nat} {v : Value} {n : Nat} {xs : List Value} (h : w.ownsRow base e size v n xs) (p : Addr) (u : Value) (hp : p.block < base) : (w.setCell p u).ownsRow base e size v n xs :=
  own_stay h fun g hg => Below.heap_setCell _ _ _ _ (fun e => by have := (h.lt g hg).1; omega)
section
variable {X D : Type} {e : TypeId} {k : Nat} {enc : X → List Value} {N : Nat → World → X → Prop}
def Up (e : TypeId) (k : Nat) (enc : X → List Value) (N : Nat → World → X → Prop) (base : Nat) (w : World) (v : Value) (ys : List X) : Prop :=
  w.ownsRow base e k v ys.length (ys.flatMap enc) ∧ ∀ y ∈ ys, N w.heap.size (hide w (lowOr base v)) y
def Mono (N : Nat → World → X → Prop) : Prop := ∀ (B B' : Nat) (w w' : World) (x : X), Sub w w' → B ≤ B' → N B w x → N B' w' x
theorem Up.nil (base : Nat) (w : World) : Up e k enc N base w (.slice none 0 0) [] := ⟨World.ownsRow_nil _ _ _ _, fun y hy => by simp at hy⟩
theorem Up.grow (hN : Mono N) {base : Nat} {w w' : World} {v : Value} {ys : List X} (h : Up e k enc N base w v ys) (hb : Below w.heap.size w w') : Up e k enc N base w' v ys :=
  ⟨own_to h.1 hb, fun y hy => hN _ _ _ _ y (Sub.grow hb) hb.size (h.2 y hy)⟩
theorem Up.set (hN : Mono N) {base : Nat} {w : World} {v : Value} {ys : List X} (h : Up e k enc N base w v ys) (p : Addr) (u : Value) (hp : p.block < base) : Up e k enc N base (w.setCell p u) v ys :=
  ⟨row_set h.1 p u hp, fun y hy => hN _ _ _ _ y (Sub.set p u (by simp [lowOr, hp])) (by simp) (h.2 y hy)⟩
theorem Up.lt {base : Nat} {w : World} {v : Value} {ys : List X} (h : Up e k enc N base w v ys) : ∀ g, v.ownBlock = some g → base ≤ g ∧ g < w.heap.size := fun g hg => h.1.lt g hg
theorem Up.app (hN : Mono N) {base m : Nat} {w w' : World} {v v' : Value} {ys : List X} {y : X} (h : Up e k enc N base w v ys) (hm : base ≤ m) (hv : ∀ g, v.ownBlock = some g → g < m)
    (hy : N w.heap.size (hide w (low m)) y) (ho : w'.ownsRow base e k v' (ys.length + 1) (ys.flatMap enc ++ enc y)) (hg : w.grownBy w' v.ownBlock) (ha : v'.ownBlock = v.ownBlock ∨ v'.ownBlock = some w.heap.size) :
    Up e k enc N base w' v' (ys ++ [y]) := by
  refine ⟨?_, fun z hz => ?_⟩
  · rw [List.length_append, List.flatMap_append]
    simpa using ho
  · rcases List.mem_append.1 hz with hz | hz
    · exact hN _ _ _ _ z (Sub.app hg ha) hg.size (h.2 z hz)
    · simp at hz
      subst hz
      exact hN _ _ _ _ z ((Sub.up hm hv).trans (Sub.app hg ha)) hg.size hy
theorem Up.done (hN : Mono N) {bytes base : Nat} {E : Nat → World → Nat → Nat → D → Prop} {d : X → D} {w : World} {v : Value} {ys : List X} (hk : ∀ x, (enc x).length = k) (hp : 0 < k) (h : Up e k enc N base w v ys) (hy : ys.length * bytes ≤ 140737488351232)
    (hE : ∀ (B : Nat) (w : World) (b o : Nat) (y : X), N B w y → (∀ j u, (enc y)[j]? = some u → w.cell? ⟨b, o + j, none⟩ = some u) → E B w b o (d y)) :
    ∃ a c, v = .slice a (ys.map d).length c ∧ (ys.map d).length ≤ c ∧ RdSl w.heap.size (hide w (low base)) k bytes E a (ys.map d) := by
  have ho : (hide w (low base)).ownsRow base e k v ys.length (ys.flatMap enc) := own_stay h.1 fun g hg => hide_block _ _ _ (low_false.2 (h.lt g hg).1)
  obtain ⟨a, c, e1, e2, e3⟩ := own_rd (E := fun B w b o y => E B w b o (d y)) (bytes := bytes) hk ho hp hy fun b o x hx hb hc => by
    rw [hide_size] at hb ⊢
    exact hE _ _ _ _ x (hN _ _ _ _ x Sub.off (Nat.le_refl _) (h.2 x hx)) hc
  rw [hide_size] at e3
  refine ⟨a, c, by rw [List.length_map]; exact e1, by rw [List.length_map]; exact e2, by rw [List.length_map]; exact e3.1, fun i x hx => ?_⟩
  rw [List.getElem?_map] at hx
  cases hi : ys[i]? with
  | none => rw [hi] at hx; cases hx
  | some y =>
    rw [hi] at hx
    cases hx
    exact e3.2 i y hi
end
theorem step_append_at {P : Program} (w : World) {ops : Array Oper} {o : Oper} {a : Act} {K : Act → World → Prop} {Q : Exit → Act → World → Prop} {E : Prop} (hgd : o.guard = none) (s x : Operand) (t : TypeId)
    (ho : o.op = .call { callee := .builtin .append, args := #[s, x], argTypes := #[t, t] }) (base : Nat) (e : TypeId) (i : TypeInfo) (z : Value) (size bytes : Nat) (ht : P.underlying t = some (.slice e)) (hi : P.info? e = some i) (hz : i.zero = some z)
    (hsize : i.size = size) (hby : i.bytes = bytes) (hzs : z.cells.size = size) (hsz : 0 < size) (v : Value) (n : Nat) (xs : List Value) (hs : a.eval s = v) (hown : w.ownsRow base e size v n xs)
    (ad : Addr) (m c : Nat) (news : List Value) (hx : a.eval x = .slice (some ad) m c) (hl : news.length = m * size) (hnews : ∀ j u, news[j]? = some u → w.cell? (ad.add j) = some u) (h1 : ∀ u ∈ news, u.oneCell' = true)
    (h63 : n + m ≤ maxLen) (hbytes : (n + m) * bytes ≤ 140737488355328) (hbase : base ≤ w.heap.size)
    (h : ∀ v' w', w'.ownsRow base e size v' (n + m) (xs ++ news) → w.grownBy w' v.ownBlock → (v'.ownBlock = v.ownBlock ∨ v'.ownBlock = some w.heap.size) → K (a.put o.dst v') w') :
    if Region.wanted o (yielded ops a.tmps) = true then Oper.wp P o a w K Q else E := by
  have hw : Region.wanted o (yielded ops a.tmps) = true := by simp [Region.wanted, hgd]
  rw [if_pos hw]
  obtain ⟨v', w', hr, h2, h3, h4, h5⟩ := run_append_own_at (P := P) w base t o.type e i z size bytes ht hi hz hsize hby hzs hsz v n xs hown ad m c news hl hnews h1 h63 hbytes hbase
  unfold Oper.wp execOp
  simp only [ho, resolve, invoke, builtin, Sem.run_bind, Sem.run_pure, Result.andThen_ok, List.map_toArray, List.map_cons, List.map_nil, hs, hx, hr]
  exact h v' w' h2 h3 h5
end Go.Proofs.YtmkjlhplgcifiaaGreat
