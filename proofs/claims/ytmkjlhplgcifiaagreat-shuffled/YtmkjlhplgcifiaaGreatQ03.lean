/-
  slices.SortedFunc at rows: a list of its own, the same rows in some order.
  Regions that draw their order, whose operations only read and whose calls only make new memory: one walk, in the order of the text, serves every order (the law of Derived.Deep.Quiet, at the class of the worlds that have grown).
  append(x, y...): what is appended may be nil.
  A list that grows by appending beside other memory: what lies elsewhere stays.
-/
import Derived.Test.YtmkjlhplgcifiaaGreatQ02
import Derived.Test.YtmkjlhplgcifiaaGreatQ01
import Derived.Shelf.SlSortCmp.NoneTotal
import Derived.Laws.Append
import Derived.Laws.AppendOwn
import Derived.Maps.AppendAt
namespace Go.Proofs.YtmkjlhplgcifiaaGreat
open Go.ChangeShapes Go.WideShapes Go.ChangeAt Go.RowKit
set_option linter.unusedVariables false
set_option linter.unusedSimpArgs false

theorem sortNone_any (p : Option Addr) (cap : Nat) (fv : Value) (w : World) : Calls Tryz.prog 178 #[.slice p 0 cap, fv] w fun e w' => e = .returned (.tuple #[]) ∧ w' = w := AnyF.slices_SortFunc_none sortRow p cap fv w

theorem sortedFunc_any (a : Option Addr) (cap Bs : Nat) (zs : List DRow) (w : World) (hBs : w.cell? ⟨Bs, 0, none⟩ = some (.slice a zs.length cap)) (hc : rdRows w.heap.size w a zs) :
    Calls Tryz.prog 163 #[.func (.func 179) #[] #[.pointer (some ⟨Bs, 0, none⟩)], .func (.func 165) #[] #[]] w fun e w' => (∃ a' c' l', e = .returned (.slice a' l'.length c') ∧ l'.Perm zs ∧ rdRows w'.heap.size w' a' l') ∧ Below w.heap.size w w' := by
  have HC := hid hc
  have hlen := hc.1
  clear hc
  cases zs with
  | nil =>
    go_enter Tryz.func163, Tryz.ntmps163
    go_wp2_with (first
      | (go_at_call 177; refine (collect_any a cap Bs [] _ hBs HC.out).mono ?_; rintro e w1 ⟨v, rfl, ho, hb1⟩; obtain ⟨a1, c1, rfl, _, _⟩ := own_slice ho; clear ho)
      | (go_at_call 178; refine (sortNone_any _ _ _ _).mono ?_; rintro e w2 ⟨rfl, rfl⟩))
    go_ret
    exact ⟨⟨a1, c1, [], rfl, List.Perm.refl _, by simp, fun i x hx => by simp at hx⟩, hb1⟩
  | cons z t =>
    have hne : (z :: t).length = t.length + 1 := rfl
    go_enter Tryz.func163, Tryz.ntmps163
    go_wp2_with (first
      | (go_at_call 177; refine (collect_any a cap Bs (z :: t) _ hBs HC.out).mono ?_; rintro e w1 ⟨v, rfl, ho, hb1⟩; obtain ⟨g1, c1, rfl⟩ := ownsRow_succ (k := t.length) ho; have HO := hid ho; clear ho)
      | (go_at_call 178; refine (sortRows_any (z :: t) w.heap.size g1 c1 _ HO.out hb1.size hlen).mono ?_; rintro e w2 ⟨rfl, l', hp, hr, hb2⟩; have HP := hid hp; have HR := hid hr; clear hp hr))
    go_ret
    exact ⟨⟨_, c1, l', by rw [HP.out.length_eq]; rfl, HP.out, HR.out⟩, hb1.trans hb2⟩
end Go.Proofs.YtmkjlhplgcifiaaGreat
namespace Go
/-- The world, with new blocks behind its own and some draws made. -/
def World.grow (w : World) (u : Nat → Array Obj) : World := { w with heap := w.heap ++ u 0, drawn := (u 1).size }

theorem World.heap_grow (w : World) (u : Nat → Array Obj) (k : Nat) (h : k < w.heap.size) : (w.grow u).heap[k]? = w.heap[k]? := by
  simp [World.grow, Array.getElem?_append, h]

theorem World.cell?_grow (w : World) (u : Nat → Array Obj) (a : Addr) (h : (w.cell? a).isSome = true) : (w.grow u).cell? a = w.cell? a := by
  have hb : a.block < w.heap.size := by
    rcases Nat.lt_or_ge a.block w.heap.size with h' | h'
    · exact h'
    · simp [World.cell?, Array.getElem?_eq_none h'] at h
  simp only [World.cell?, World.heap_grow w u _ hb]

attribute [local simp] World.cell?_grow
attribute [local go_sem] World.cell?_grow

theorem World.below_grow (w : World) (u : Nat → Array Obj) : RowKit.Below w.heap.size w (w.grow u) :=
  ⟨rfl, rfl, rfl, by simp [World.grow], fun k hk => World.heap_grow w u k hk⟩

theorem World.grow_of_below {w w' : World} (h : RowKit.Below w.heap.size w w') : ∃ u, w' = w.grow u := by
  refine ⟨fun i => if i = 0 then w'.heap.extract w.heap.size else Array.replicate w'.drawn default, ?_⟩
  obtain ⟨hp, tp, dr, os, ou⟩ := w'
  obtain ⟨h1, h2, h3, h4, h5⟩ := h
  simp only at h1 h2 h3 h4 h5
  subst h1 h2 h3
  have : hp = w.heap ++ hp.extract w.heap.size := by
    apply Array.ext_getElem?
    intro i
    rw [Array.getElem?_append]
    split
    · rename_i hi; exact h5 i hi
    · rename_i hi
      simp only [Array.getElem?_extract]
      rcases Nat.lt_or_ge i hp.size with h' | h'
      · rw [if_pos (by simp; omega)]; congr 1; omega
      · rw [if_neg (by simp; omega), Array.getElem?_eq_none h']
  simp only [World.grow, if_true, Nat.one_ne_zero, if_false, Array.size_replicate]
  rw [← this]

theorem wp_region_grow {P : Program} {id : Nat} {Q : Exit → Act → World → Prop} {a : Act} {w : World} {l : List Oper} (hm : P.follows .mixedOrders = true) (hB : Region.lexB .any l.toArray = true)
    (h : wpQuiet P l.toArray (fun w' => ∃ u, w' = w.grow u) (fun a' => ∀ w', RowKit.Below w.heap.size w w' → Q .normal a' w') l a) : (Code.region id l.toArray true).wp P Q a w := by
  refine wp_region_quiet (C := fun w' => ∃ u, w' = w.grow u) hm hB (World.grow_of_below ⟨rfl, rfl, rfl, Nat.le_refl _, fun _ _ => rfl⟩) ?_
  have e : (fun a' => ∀ w', RowKit.Below w.heap.size w w' → Q .normal a' w') = fun a' => ∀ w', (∃ u, w' = w.grow u) → Q .normal a' w' := by
    funext a'
    refine propext ⟨fun H w' ⟨u, hu⟩ => hu ▸ H _ (World.below_grow w u), fun H w' hb => H w' (World.grow_of_below hb)⟩
  rw [← e]
  simpa using h

theorem Calls.grow_of {P : Program} {f : FuncId} {args : Array Value} {w : World} {u : Nat → Array Obj} {v : Value}
    (h : Calls P f args (w.grow u) fun e w' => e = .returned v ∧ RowKit.Below (w.grow u).heap.size (w.grow u) w') : Calls P f args (w.grow u) fun e w'' => e = .returned v ∧ ∃ u', w'' = w.grow u' :=
  h.mono fun _ _ ⟨he, hm⟩ => ⟨he, World.grow_of_below ((World.below_grow w u).trans (hm.mono (World.below_grow w u).size))⟩
theorem Calls.grow_of_same {P : Program} {f : FuncId} {args : Array Value} {w : World} {u : Nat → Array Obj} {v : Value}
    (h : Calls P f args (w.grow u) fun e w' => e = .returned v ∧ w' = w.grow u) : Calls P f args (w.grow u) fun e w'' => e = .returned v ∧ ∃ u', w'' = w.grow u' :=
  h.mono fun _ _ ⟨he, hm⟩ => ⟨he, u, hm⟩
theorem Calls.grow_bool {P : Program} {f : FuncId} {args : Array Value} {w : World} {u : Nat → Array Obj} {b b' : Bool} (hb : b = b')
    (h : Calls P f args (w.grow u) fun e w' => e = .returned (.bool b) ∧ RowKit.Below (w.grow u).heap.size (w.grow u) w') : Calls P f args (w.grow u) fun e w'' => e = .returned (.bool b') ∧ ∃ u', w'' = w.grow u' := by
  subst hb; exact Calls.grow_of h
theorem Calls.grow_bool_same {P : Program} {f : FuncId} {args : Array Value} {w : World} {u : Nat → Array Obj} {b b' : Bool} (hb : b = b')
    (h : Calls P f args (w.grow u) fun e w' => e = .returned (.bool b) ∧ w' = w.grow u) : Calls P f args (w.grow u) fun e w'' => e = .returned (.bool b') ∧ ∃ u', w'' = w.grow u' := by
  subst hb; exact Calls.grow_of_same h
end Go
namespace Go.Proofs.YtmkjlhplgcifiaaGreat
open Go.ChangeShapes Go.WideShapes Go.ChangeAt Go.RowKit
set_option linter.unusedVariables false
set_option linter.unusedSimpArgs false

theorem run_append_none {P : Program} (w : World) (t ty e : TypeId) (i : TypeInfo) (ht : P.underlying t = some (.slice e)) (hi : P.info? e = some i) (s : Option Addr) (n cap c : Nat) (hc : n ≤ cap) :
    (Builtin.append_ #[t, t] ty #[.slice s n cap, .slice none 0 c]).run P w = .ok (.slice s n cap) w := by
  cases s with
  | none => simp [Builtin.append_, run_underlying ht, sizeOf, typeInfo, hi, Builtin.lenOf, hc, run_firstCells_none]
  | some a => simp [Builtin.append_, run_underlying ht, sizeOf, typeInfo, hi, Builtin.lenOf, hc, run_firstCells_none, storeCells]

theorem run_append_list {P : Program} (w : World) (base : Nat) (t ty e : TypeId) (i : TypeInfo) (z : Value) (size bytes : Nat) (ht : P.underlying t = some (.slice e)) (hi : P.info? e = some i) (hz : i.zero = some z)
    (hsize : i.size = size) (hby : i.bytes = bytes) (hzs : z.cells.size = size) (hsz : 0 < size) (v : Value) (n : Nat) (xs : List Value) (hown : w.ownsRow base e size v n xs)
    (s : Option Addr) (m c : Nat) (news : List Value) (hl : news.length = m * size) (hnews : ∀ j u, news[j]? = some u → ∃ b o, s = some ⟨b, o, none⟩ ∧ w.cell? ⟨b, o + j, none⟩ = some u) (h1 : ∀ u ∈ news, u.oneCell' = true)
    (h63 : n + m ≤ maxLen) (hbytes : (n + m) * bytes ≤ 140737488355328) (hbase : base ≤ w.heap.size) :
    ∃ v' w', (Builtin.append_ #[t, t] ty #[v, .slice s m c]).run P w = .ok v' w' ∧ w'.ownsRow base e size v' (n + m) (xs ++ news) ∧ w.grownBy w' v.ownBlock := by
  cases s with
  | none =>
    have hn : news = [] := by
      cases news with
      | nil => rfl
      | cons u l => obtain ⟨b, o, h, _⟩ := hnews 0 u rfl; cases h
    subst hn
    have hm : m = 0 := by
      have : m * size = 0 := by simpa using hl.symm
      rcases Nat.mul_eq_zero.1 this with h | h <;> omega
    subst hm
    obtain ⟨a, cap, rfl, hc, _⟩ := own_slice hown
    exact ⟨_, w, run_append_none w t ty e i ht hi a n cap c hc, by simpa using hown, ⟨rfl, rfl, rfl, Nat.le_refl _, fun _ _ _ => rfl⟩⟩
  | some ad =>
    by_cases h0 : news = []
    · subst h0
      have hm : m = 0 := by
        have : m * size = 0 := by simpa using hl.symm
        rcases Nat.mul_eq_zero.1 this with h | h <;> omega
      subst hm
      obtain ⟨v', w', h2, h3, h4, _⟩ := run_append_own w base t ty e i z size bytes ht hi hz hsize hby hzs hsz v n xs hown ad 0 c [] (by simp) (fun j u h => by simp at h) (fun u h => by simp at h) h63 hbytes hbase
      exact ⟨v', w', h2, h3, h4⟩
    · have hads : ∃ b o, ad = ⟨b, o, none⟩ := by
        cases news with
        | nil => exact absurd rfl h0
        | cons u l => obtain ⟨b, o, h, _⟩ := hnews 0 u rfl; exact ⟨b, o, by cases h; rfl⟩
      obtain ⟨b, o, rfl⟩ := hads
      obtain ⟨v', w', h2, h3, h4, _⟩ := run_append_own w base t ty e i z size bytes ht hi hz hsize hby hzs hsz v n xs hown ⟨b, o, none⟩ m c news hl (fun j u h => by
        obtain ⟨b', o', e', hcell⟩ := hnews j u h
        cases e'
        rw [show ((⟨b, o, none⟩ : Addr).add j) = ⟨b, o + j, none⟩ by unfold Addr.add; split <;> simp_all]
        exact hcell) h1 h63 hbytes hbase
      exact ⟨v', w', h2, h3, h4⟩

theorem wp_append_list {P : Program} (w : World) {o : Oper} {a : Act} {K : Act → World → Prop} {Q : Exit → Act → World → Prop} (s x : Operand) (t : TypeId)
    (ho : o.op = .call { callee := .builtin .append, args := #[s, x], argTypes := #[t, t] }) (base : Nat) (e : TypeId) (i : TypeInfo) (z : Value) (size bytes : Nat) (ht : P.underlying t = some (.slice e)) (hi : P.info? e = some i) (hz : i.zero = some z)
    (hsize : i.size = size) (hby : i.bytes = bytes) (hzs : z.cells.size = size) (hsz : 0 < size) (v : Value) (n : Nat) (xs : List Value) (hs : a.eval s = v) (hown : w.ownsRow base e size v n xs)
    (sl : Option Addr) (m c : Nat) (news : List Value) (hx : a.eval x = .slice sl m c) (hl : news.length = m * size) (hnews : ∀ j u, news[j]? = some u → ∃ b o, sl = some ⟨b, o, none⟩ ∧ w.cell? ⟨b, o + j, none⟩ = some u) (h1 : ∀ u ∈ news, u.oneCell' = true)
    (h63 : n + m ≤ maxLen) (hbytes : (n + m) * bytes ≤ 140737488355328) (hbase : base ≤ w.heap.size)
    (h : ∀ v' w', w'.ownsRow base e size v' (n + m) (xs ++ news) → w.grownBy w' v.ownBlock → K (a.put o.dst v') w') : o.wp P a w K Q := by
  obtain ⟨v', w', h2, h3, h4⟩ := run_append_list (P := P) w base t o.type e i z size bytes ht hi hz hsize hby hzs hsz v n xs hown sl m c news hl hnews h1 h63 hbytes hbase
  unfold Oper.wp execOp
  simp only [ho, resolve, invoke, builtin, Sem.run_bind, Sem.run_pure, Result.andThen_ok, List.map_toArray, List.map_cons, List.map_nil, hs, hx, h2]
  exact h v' w' h3 h4
theorem wpList_append_list {P : Program} (w : World) {ops : Array Oper} {rest : List Oper} {o : Oper} {a : Act} {Q : Exit → Act → World → Prop} (hgd : o.guard = none) (s x : Operand) (t : TypeId)
    (ho : o.op = .call { callee := .builtin .append, args := #[s, x], argTypes := #[t, t] }) (base : Nat) (e : TypeId) (i : TypeInfo) (z : Value) (size bytes : Nat) (ht : P.underlying t = some (.slice e)) (hi : P.info? e = some i) (hz : i.zero = some z)
    (hsize : i.size = size) (hby : i.bytes = bytes) (hzs : z.cells.size = size) (hsz : 0 < size) (v : Value) (n : Nat) (xs : List Value) (hs : a.eval s = v) (hown : w.ownsRow base e size v n xs)
    (sl : Option Addr) (m c : Nat) (news : List Value) (hx : a.eval x = .slice sl m c) (hl : news.length = m * size) (hnews : ∀ j u, news[j]? = some u → ∃ b o, sl = some ⟨b, o, none⟩ ∧ w.cell? ⟨b, o + j, none⟩ = some u) (h1 : ∀ u ∈ news, u.oneCell' = true)
    (h63 : n + m ≤ maxLen) (hbytes : (n + m) * bytes ≤ 140737488355328) (hbase : base ≤ w.heap.size)
    (h : ∀ v' w', w'.ownsRow base e size v' (n + m) (xs ++ news) → w.grownBy w' v.ownBlock → wpList P ops Q rest (a.put o.dst v') w') : wpList P ops Q (o :: rest) a w :=
  wpList_plain hgd fun _ hK => wp_append_list w s x t ho base e i z size bytes ht hi hz hsize hby hzs hsz v n xs hs hown sl m c news hx hl hnews h1 h63 hbytes hbase fun v' w' h2 h3 => hK _ _ (h v' w' h2 h3)
theorem step_append_list {P : Program} (w : World) {ops : Array Oper} {o : Oper} {a : Act} {K : Act → World → Prop} {Q : Exit → Act → World → Prop} {E : Prop} (hgd : o.guard = none) (s x : Operand) (t : TypeId)
    (ho : o.op = .call { callee := .builtin .append, args := #[s, x], argTypes := #[t, t] }) (base : Nat) (e : TypeId) (i : TypeInfo) (z : Value) (size bytes : Nat) (ht : P.underlying t = some (.slice e)) (hi : P.info? e = some i) (hz : i.zero = some z)
    (hsize : i.size = size) (hby : i.bytes = bytes) (hzs : z.cells.size = size) (hsz : 0 < size) (v : Value) (n : Nat) (xs : List Value) (hs : a.eval s = v) (hown : w.ownsRow base e size v n xs)
    (sl : Option Addr) (m c : Nat) (news : List Value) (hx : a.eval x = .slice sl m c) (hl : news.length = m * size) (hnews : ∀ j u, news[j]? = some u → ∃ b o, sl = some ⟨b, o, none⟩ ∧ w.cell? ⟨b, o + j, none⟩ = some u) (h1 : ∀ u ∈ news, u.oneCell' = true)
    (h63 : n + m ≤ maxLen) (hbytes : (n + m) * bytes ≤ 140737488355328) (hbase : base ≤ w.heap.size)
    (h : ∀ v' w', w'.ownsRow base e size v' (n + m) (xs ++ news) → w.grownBy w' v.ownBlock → K (a.put o.dst v') w') :
    if Region.wanted o (yielded ops a.tmps) = true then Oper.wp P o a w K Q else E := by
  have hw : Region.wanted o (yielded ops a.tmps) = true := by simp [Region.wanted, hgd]
  rw [if_pos hw]
  exact wp_append_list w s x t ho base e i z size bytes ht hi hz hsize hby hzs hsz v n xs hs hown sl m c news hx hl hnews h1 h63 hbytes hbase h
/-- a list of one, made by a literal -/
theorem own_built (W : World) (cs : List Value) (base : Nat) (e : TypeId) (size n : Nat) (hb : base ≤ W.heap.size) (hl : cs.length = n * size) (hn : n ≤ maxLen) : (W.alloc (.cells cs.toArray e)).ownsRow base e size (.slice (some ⟨W.heap.size, 0, none⟩) n n) n cs :=
  ⟨hl, .inr ⟨W.heap.size, n, cs.toArray, rfl, hb, (by show (W.heap.push _)[W.heap.size]? = _; simp), Nat.le_refl _, hn, by simpa using hl, by simp [← hl]⟩⟩
/-- how a list reads, as the cells that are appended -/
theorem news_of {α : Type} {w : World} {B k bytes : Nat} {E : Nat → World → Nat → Nat → α → Prop} {enc : α → List Value} {a : Option Addr} {l : List α} (hk : ∀ x, (enc x).length = k) (hp : 0 < k) (h : RdSl B w k bytes E a l)
    (hE : ∀ b o x, E B w b o x → ∀ j u, (enc x)[j]? = some u → w.cell? ⟨b, o + j, none⟩ = some u) : ∀ j u, (l.flatMap enc)[j]? = some u → ∃ b o, a = some ⟨b, o, none⟩ ∧ w.cell? ⟨b, o + j, none⟩ = some u := by
  intro j u hj
  have hjl : j < l.length * k := by rw [← oflat_len hk l]; exact (List.getElem?_eq_some_iff.1 hj).1
  have hi : j / k < l.length := (Nat.div_lt_iff_lt_mul hp).2 hjl
  obtain ⟨x, hx⟩ : ∃ x, l[j / k]? = some x := ⟨l[j / k], List.getElem?_eq_getElem hi⟩
  have hm : j % k < k := Nat.mod_lt _ hp
  have h1 := oflat_get hk l (j / k) x (j % k) hx hm
  rw [Nat.div_add_mod' j k, hj] at h1
  obtain ⟨b, off, e, _, he⟩ := h.2 (j / k) x hx
  refine ⟨b, off, e, ?_⟩
  have := hE _ _ _ he (j % k) u h1.symm
  rwa [Nat.add_assoc, Nat.div_add_mod' j k] at this
theorem eBlk_cells {B : Nat} {w : World} {b o : Nat} {x : DBlk} (h : eBlk B w b o x) : ∀ j u, (encBlk x)[j]? = some u → w.cell? ⟨b, o + j, none⟩ = some u
  | 0, u, hj => by simp [encBlk] at hj; subst hj; exact h.1
  | 1, u, hj => by simp [encBlk] at hj; subst hj; exact h.2
  | j + 2, u, hj => by simp [encBlk] at hj
end Go.Proofs.YtmkjlhplgcifiaaGreat
namespace Go.Proofs.YtmkjlhplgcifiaaGreat
open Go.ChangeShapes Go.WideShapes Go.ChangeAt Go.RowKit
set_option linter.unusedVariables false
set_option linter.unusedSimpArgs false

/-- from W0 on nothing has turned but the row of v0, and v is that row or a newer one -/
structure Inv (W0 : World) (v0 : Value) (W : World) (v : Value) : Prop where
  gr : W0.grownBy W v0.ownBlock
  lie : ∀ g, v.ownBlock = some g → v0.ownBlock = some g ∨ W0.heap.size ≤ g
theorem Inv.refl (W : World) (v : Value) : Inv W v W v := ⟨⟨rfl, rfl, rfl, Nat.le_refl _, fun _ _ _ => rfl⟩, fun _ h => .inl h⟩
theorem Inv.ext {W0 W W' : World} {v0 v : Value} (h : Inv W0 v0 W v) (hb : Below W.heap.size W W') : Inv W0 v0 W' v :=
  ⟨⟨hb.os.trans h.gr.os, hb.tape.trans h.gr.tape, hb.output.trans h.gr.output, Nat.le_trans h.gr.size hb.size, fun k hk hne => (hb.block k (Nat.lt_of_lt_of_le hk h.gr.size)).trans (h.gr.block k hk hne)⟩, h.lie⟩
theorem Inv.trans {W0 W1 W2 : World} {v0 v1 v2 : Value} (h : Inv W0 v0 W1 v1) (k : Inv W1 v1 W2 v2) : Inv W0 v0 W2 v2 := by
  refine ⟨⟨k.gr.os.trans h.gr.os, k.gr.tape.trans h.gr.tape, k.gr.output.trans h.gr.output, Nat.le_trans h.gr.size k.gr.size, fun b hb hne => ?_⟩, fun g hg => ?_⟩
  · refine (k.gr.block b (Nat.lt_of_lt_of_le hb h.gr.size) (fun e => ?_)).trans (h.gr.block b hb hne)
    rcases h.lie b e.symm with e' | e'
    · exact hne e'.symm
    · omega
  · rcases k.lie g hg with e | e
    · exact h.lie g e
    · exact .inr (Nat.le_trans h.gr.size e)
theorem Inv.app {W w3 : World} {v v' : Value} (hg : W.grownBy w3 v.ownBlock) (ha : v'.ownBlock = v.ownBlock ∨ v'.ownBlock = some W.heap.size) : Inv W v w3 v' :=
  ⟨hg, fun g h => by
    rcases ha with e | e
    · exact .inl (e ▸ h)
    · rw [e] at h; cases h; exact .inr (Nat.le_refl _)⟩
theorem Inv.cell {W0 W : World} {v0 v : Value} (h : Inv W0 v0 W v) {b o : Nat} {u : Value} (hne : v0.ownBlock ≠ some b) (hc : W0.cell? ⟨b, o, none⟩ = some u) : W.cell? ⟨b, o, none⟩ = some u := h.gr.cell hc (fun e => hne e.symm)
theorem Inv.low {W0 W Wb : World} {v0 v : Value} {B : Nat} {e : TypeId} {size n : Nat} {xs : List Value} (h : Inv W0 v0 W v) (ho : Wb.ownsRow B e size v0 n xs) (hB : B ≤ W0.heap.size) : Below B W0 W :=
  (Below.refl B W0).grown h.gr hB (fun k hk => (ho.lt k hk).1)
theorem own_ne {w : World} {B : Nat} {e : TypeId} {size : Nat} {v : Value} {n : Nat} {xs : List Value} (h : w.ownsRow B e size v n xs) {b : Nat} (hb : b < B ∨ w.heap.size ≤ b) : v.ownBlock ≠ some b := fun e => by
  have := h.lt b e; omega
end Go.Proofs.YtmkjlhplgcifiaaGreat
