/-
  palisadekeep: raw things made right: pick, selector, block; at, has.
  append(x, y...): what is appended may be nil.
  A list that grows by appending beside other memory: what lies elsewhere stays.
-/
import Derived.Test.YtmkjlhplgcifiaaGreatJ03
import Derived.Test.YtmkjlhplgcifiaaGreatJ09
import Derived.Test.YtmkjlhplgcifiaaGreatJ04
import Derived.Test.YtmkjlhplgcifiaaGreatJ14
import Derived.Test.YtmkjlhplgcifiaaGreatJ08
import Derived.Laws.Append
import Derived.Laws.AppendOwn
import Derived.Maps.AppendAt
namespace Go.Proofs.YtmkjlhplgcifiaaGreat
open Go.ChangeShapes Go.WideShapes Go.ChangeAt Go.RowKit
attribute [local simp] World.cell?_grow
attribute [local go_sem] World.cell?_grow
attribute [local simp] World.cell?_alloc_there
attribute [local go_sem] World.cell?_alloc_there
attribute [local go_sem] eqg_blk std_blk eqg_pod std_pod eqg_sel std_sel eqg_prt std_prt
attribute [local go_sem ↓] eql_blk eql_sel neq_sel eql_prt eql_pod
attribute [local go_sem ↓] met_in1 met_in2 met_re1 met_re2
attribute [local go_sem ↓] met_has1 met_has2
set_option linter.unusedVariables false
set_option linter.unusedSimpArgs false
/-- a number of 64 bits -/
def i64 (n : Int) : Prop := -9223372036854775808 ≤ n ∧ n ≤ 9223372036854775807
/-- which of n things the raw number c speaks of -/
def pk (c n : Int) : Int := (if c < 0 then -(c + 1) else c) % n
theorem pk_in {c n : Int} (hn : 0 < n) : 0 ≤ pk c n ∧ pk c n < n := ⟨Int.emod_nonneg _ (by omega), Int.emod_lt_of_pos _ hn⟩
theorem pick_any (c n : Int) (w : World) (hc : i64 c) (hn : 0 < n) (hn1 : n ≤ 4294967296) :
    Calls Tryz.prog 22 #[.int .i64 c, .int .i64 n] w fun e w' => e = .returned (.int .i64 (pk c n)) ∧ w' = w := by
  obtain ⟨h0, h1⟩ := hc
  have hne : ¬ n = 0 := by omega
  by_cases h : c < 0
  · have HP := hid (show pk c n = (-(c + 1)) % n by rw [pk, if_pos h])
    have h2 : 0 ≤ -(c + 1) := by omega
    go_enter Tryz.func22, Tryz.ntmps22
    go_wp2
    go_ret
    refine ⟨?_, rfl⟩
    show Ending.returned (.int .i64 (-((c + 1).tmod n))) = _
    rw [HP.out, ← Int.neg_tmod, Int.tmod_eq_emod_of_nonneg h2]
  · have HP := hid (show pk c n = c % n by rw [pk, if_neg h])
    have h2 : 0 ≤ c := by omega
    go_enter Tryz.func22, Tryz.ntmps22
    go_wp2
    go_ret
    refine ⟨?_, rfl⟩
    rw [HP.out]; rfl
theorem mkSel_any (need ban : Int) (w : World) (h1 : i64 need) (h2 : i64 ban) :
    Calls Tryz.prog 41 #[.agg #[.int .i64 need, .int .i64 ban]] w fun e w' => e = .returned (.agg #[.int .i64 (pk need 256), .int .i64 (pk ban 256)]) ∧ Below w.heap.size w w' := by
  go_enter Tryz.func41, Tryz.ntmps41
  go_wp2
  refine wp_region_grow_tail 6 (by kernel_rfl) (by kernel_rfl) (by kernel_rfl) ?_
  simp only [takes_6, drops_6]
  repeat (go_big_quiet_step (first
    | (go_at_call 22; exact Calls.grow_of_same (pick_any _ _ _ (by assumption) (by decide) (by decide)))))
  refine wpQuiet_nil ?_
  intro w1 hb1
  obtain ⟨hc1, hf1⟩ := bcell hb1
  have hz1 := hb_lt hb1
  have z0 : w1.cell? ⟨w.heap.size + 1, 0, none⟩ = some (.int .i64 0) := cell_to (by simp [go_sem]) hb1
  have z1 : w1.cell? ⟨w.heap.size + 1, 1, none⟩ = some (.int .i64 0) := cell_to (by simp [go_sem]) hb1
  have hB : Below w.heap.size w w1 := (by repeat (first | exact Below.refl _ _ | assumption | apply Ext.alloc | apply Ext.drewN | apply Ext.drew | refine Ext.trans ?_ (by assumption)))
  clear hc1
  go_wp2
  exact bodyPost_ret (v := .agg #[.int .i64 (pk need 256), .int .i64 (pk ban 256)]) (by simp [results, Tryz.results41, go_sem, hz1, z0, z1]) rfl ⟨rfl, (hB.setCell (by simp) _).setCell (by simp) _⟩
/-- a right block of a raw one -/
def mkBlk (b : DBlk) : DBlk := ⟨pk b.base 4294967296 - pk b.base 4294967296 % pw (pk b.bits 33), pk b.bits 33⟩
theorem mkBlk_ok (b : DBlk) : blkOk (mkBlk b) = true := by
  have h1 := pk_in (c := b.bits) (n := 33) (by decide)
  have h2 := pk_in (c := b.base) (n := 4294967296) (by decide)
  have hp := pw_pos (pk b.bits 33)
  have h3 := Int.emod_nonneg (pk b.base 4294967296) (show pw (pk b.bits 33) ≠ 0 by omega)
  have h4 := Int.emod_add_mul_ediv (pk b.base 4294967296) (pw (pk b.bits 33))
  refine blkOk_true.2 ⟨h1.1, by show pk b.bits 33 ≤ 32; omega, ?_, ?_, ?_⟩
  · show 0 ≤ pk b.base 4294967296 - pk b.base 4294967296 % pw (pk b.bits 33)
    have h5 : 0 ≤ pw (pk b.bits 33) * (pk b.base 4294967296 / pw (pk b.bits 33)) := Int.mul_nonneg (by omega) (Int.ediv_nonneg h2.1 (by omega))
    omega
  · show pk b.base 4294967296 - pk b.base 4294967296 % pw (pk b.bits 33) ≤ 4294967295
    omega
  · show (pk b.base 4294967296 - pk b.base 4294967296 % pw (pk b.bits 33)) % pw (pk b.bits 33) = 0
    rw [show pk b.base 4294967296 - pk b.base 4294967296 % pw (pk b.bits 33) = pw (pk b.bits 33) * (pk b.base 4294967296 / pw (pk b.bits 33)) by omega]
    exact Int.mul_emod_right _ _
theorem mkBlk_any (b : DBlk) (w : World) (h1 : i64 b.base) (h2 : i64 b.bits) :
    Calls Tryz.prog 42 #[.agg #[.int .i64 b.base, .int .i64 b.bits]] w fun e w' => e = .returned (.agg #[.int .i64 (mkBlk b).base, .int .i64 (mkBlk b).bits]) ∧ Below w.heap.size w w' := by
  have p1 := pk_in (c := b.bits) (n := 33) (by decide)
  have p2 := pk_in (c := b.base) (n := 4294967296) (by decide)
  have HR := hid (show (mkBlk b).base = pk b.base 4294967296 - pk b.base 4294967296 % pw (pk b.bits 33) from rfl)
  have HS := hid (show (mkBlk b).bits = pk b.bits 33 from rfl)
  rw [HR.out, HS.out]
  have HP1 := hid (pick_any b.bits 33)
  have HP2 := hid (pick_any b.base 4294967296)
  generalize pk b.bits 33 = bits at *
  generalize pk b.base 4294967296 = ip at *
  obtain ⟨q0, q1⟩ := p1
  obtain ⟨q2, q3⟩ := p2
  go_enter Tryz.func42, Tryz.ntmps42
  go_wp2_with (go_at_call 22; refine (HP1.out _ h2 (by decide) (by decide)).mono ?_; rintro e w' ⟨rfl, rfl⟩)
  go_loop [4, 5] (fun n i => ∃ k m : Int, bits ≤ k ∧ k ≤ 32 ∧ i = .int .i64 k ∧ n = .int .i64 m ∧ m * pw k = pw bits) (fun _ i => (32 - intOf i).toNat)
  case atStart => exact ⟨bits, 1, by omega, by omega, rfl, rfl, by omega⟩
  case round =>
    obtain ⟨k, m, hk1, hk2, rfl, rfl, hm⟩ := hrel
    have hpk := pw_le k (by omega)
    have hpb := pw_le bits (by omega)
    have hmm := fac_le m (pw k) (pw bits) hpk.1 hpb.1 hm
    have HM := hid hm
    clear hm
    by_cases hlt : k < 32
    · have hps := pw_succ k (by omega) (by omega)
      have hm2 := fac_two m (pw (k + 1)) (pw bits) (pw_pos _) (by rw [← HM.out, hps]) hpb.2
      have HP := hid hps
      clear hps
      go_wp2
      go_round
      case rel => exact ⟨k + 1, 2 * m, by omega, by omega, by go_num, by go_num, by rw [← HM.out, HP.out, Int.mul_comm 2 m, Int.mul_assoc]⟩
      case measure => simp [intOf]; omega
    · have e : k = 32 := by omega
      subst e
      have e2 : pw 32 = 1 := rfl
      have hm := HM.out
      rw [e2, Int.mul_one] at hm
      subst hm
      have hm0 : 0 < pw bits := by omega
      have hne : ¬ pw bits = 0 := by omega
      have r0 := Int.emod_nonneg ip (show pw bits ≠ 0 by omega)
      have r1 := Int.emod_lt_of_pos ip hm0
      generalize hgm : pw bits = m at *
      go_wp2_with (go_at_call 22; refine (HP2.out _ h1 (by decide) (by decide)).mono ?_; rintro e w' ⟨rfl, rfl⟩)
      exact bodyPost_ret (v := .agg #[.int .i64 (ip - ip % m), .int .i64 bits]) (by simp [results, Tryz.results42, go_sem]) rfl ⟨by rw [hgm], (by repeat (first | exact Below.refl _ _ | assumption | apply Ext.alloc | apply Ext.drewN | apply Ext.drew | refine Ext.trans ?_ (by assumption)))⟩
end Go.Proofs.YtmkjlhplgcifiaaGreat
namespace Go.Proofs.YtmkjlhplgcifiaaGreat
open Go.ChangeShapes Go.WideShapes Go.ChangeAt Go.RowKit
set_option linter.unusedVariables false
set_option linter.unusedSimpArgs false
theorem run_append_none {P : Program} (w : World) (t ty e : TypeId) (i : TypeInfo) (ht : P.underlying t = some (.slice e)) (hi : P.info? e = some i) (s : Option Addr) (n cap c : Nat) (hc : n ≤ cap) :
    (Builtin.append_ #[t, t] ty #[.slice s n cap, .slice none 0 c]).run P w = .ok (.slice s n cap) w := by
  cases s with
  | none => simp [Builtin.append_, run_underlying ht, sizeOf, typeInfo, hi, Builtin.lenOf, hc, run_firstCells_none]
  | some a => simp [Builtin.append_, run_underlying ht, sizeOf, typeInfo, hi, Builtin.lenOf, hc, run_firstCells_none, storeCells]
theorem run_append_list {P : Program} (w : World) (base : Nat) (t ty e : TypeId) (i : TypeInfo) (z : Value) (size bytes : Nat) (ht : P.underlying t = some (.slice e)) (hi : P.info? e = some i) (hz : i.zero = some z)
    (hsize : i.size = size) (hby : i.bytes = bytes) (hzs : z.cells.size = size) (hsz : 0 < size) (v : Value) (n : Nat) (xs : List Value) (hown : w.ownsRow base e size v n xs)
    (s : Option Addr) (m c : Nat) (news : List Value) (hl : news.length = m * size) (hnews : ∀ j u, news[j]? = some u → ∃ b o, s = some ⟨b, o, none⟩ ∧ w.cell? ⟨b, o + j, none⟩ = some u) (h1 : ∀ u ∈ news, u.oneCell' = true)
    (h63 : n + m ≤ maxLen) (hbytes : (n + m) * bytes ≤ 140737488355328) (hbase : base ≤ w.heap.size) :
    ∃ v' w', (Builtin.append_ #[t, t] ty #[v, .slice s m c]).run P w = .ok v' w' ∧ w'.ownsRow base e size v' (n + m) (xs ++ news) ∧ w.grownBy w' v.ownBlock := by
  cases s with
  | none =>
    have hn : news = [] := by
      cases news with
      | nil => rfl
      | cons u l => obtain ⟨b, o, h, _⟩ := hnews 0 u rfl; cases h
    subst hn
    have hm : m = 0 := by
      have : m * size = 0 := by simpa using hl.symm
      rcases Nat.mul_eq_zero.1 this with h | h <;> omega
    subst hm
    obtain ⟨a, cap, rfl, hc, _⟩ := own_slice hown
    exact ⟨_, w, run_append_none w t ty e i ht hi a n cap c hc, by simpa using hown, ⟨rfl, rfl, rfl, Nat.le_refl _, fun _ _ _ => rfl⟩⟩
  | some ad =>
    by_cases h0 : news = []
    · subst h0
      have hm : m = 0 := by
        have : m * size = 0 := by simpa using hl.symm
        rcases Nat.mul_eq_zero.1 this with h | h <;> omega
      subst hm
      obtain ⟨v', w', h2, h3, h4, _⟩ := run_append_own w base t ty e i z size bytes ht hi hz hsize hby hzs hsz v n xs hown ad 0 c [] (by simp) (fun j u h => by simp at h) (fun u h => by simp at h) h63 hbytes hbase
      exact ⟨v', w', h2, h3, h4⟩
    · have hads : ∃ b o, ad = ⟨b, o, none⟩ := by
        cases news with
        | nil => exact absurd rfl h0
        | cons u l => obtain ⟨b, o, h, _⟩ := hnews 0 u rfl; exact ⟨b, o, by cases h; rfl⟩
      obtain ⟨b, o, rfl⟩ := hads
      obtain ⟨v', w', h2, h3, h4, _⟩ := run_append_own w base t ty e i z size bytes ht hi hz hsize hby hzs hsz v n xs hown ⟨b, o, none⟩ m c news hl (fun j u h => by
        obtain ⟨b', o', e', hcell⟩ := hnews j u h
        cases e'
        rw [show ((⟨b, o, none⟩ : Addr).add j) = ⟨b, o + j, none⟩ by unfold Addr.add; split <;> simp_all]
        exact hcell) h1 h63 hbytes hbase
      exact ⟨v', w', h2, h3, h4⟩
theorem wp_append_list {P : Program} (w : World) {o : Oper} {a : Act} {K : Act → World → Prop} {Q : Exit → Act → World → Prop} (s x : Operand) (t : TypeId)
    (ho : o.op = .call { callee := .builtin .append, args := #[s, x], argTypes := #[t, t] }) (base : Nat) (e : TypeId) (i : TypeInfo) (z : Value) (size bytes : Nat) (ht : P.underlying t = some (.slice e)) (hi : P.info? e = some i) (hz : i.zero = some z)
    (hsize : i.size = size) (hby : i.bytes = bytes) (hzs : z.cells.size = size) (hsz : 0 < size) (v : Value) (n : Nat) (xs : List Value) (hs : a.eval s = v) (hown : w.ownsRow base e size v n xs)
    (sl : Option Addr) (m c : Nat) (news : List Value) (hx : a.eval x = .slice sl m c) (hl : news.length = m * size) (hnews : ∀ j u, news[j]? = some u → ∃ b o, sl = some ⟨b, o, none⟩ ∧ w.cell? ⟨b, o + j, none⟩ = some u) (h1 : ∀ u ∈ news, u.oneCell' = true)
    (h63 : n + m ≤ maxLen) (hbytes : (n + m) * bytes ≤ 140737488355328) (hbase : base ≤ w.heap.size)
    (h : ∀ v' w', w'.ownsRow base e size v' (n + m) (xs ++ news) → w.grownBy w' v.ownBlock → K (a.put o.dst v') w') : o.wp P a w K Q := by
  obtain ⟨v', w', h2, h3, h4⟩ := run_append_list (P := P) w base t o.type e i z size bytes ht hi hz hsize hby hzs hsz v n xs hown sl m c news hl hnews h1 h63 hbytes hbase
  unfold Oper.wp execOp
  simp only [ho, resolve, invoke, builtin, Sem.run_bind, Sem.run_pure, Result.andThen_ok, List.map_toArray, List.map_cons, List.map_nil, hs, hx, h2]
  exact h v' w' h3 h4
theorem wpList_append_list {P : Program} (w : World) {ops : Array Oper} {rest : List Oper} {o : Oper} {a : Act} {Q : Exit → Act → World → Prop} (hgd : o.guard = none) (s x : Operand) (t : TypeId)
    (ho : o.op = .call { callee := .builtin .append, args := #[s, x], argTypes := #[t, t] }) (base : Nat) (e : TypeId) (i : TypeInfo) (z : Value) (size bytes : Nat) (ht : P.underlying t = some (.slice e)) (hi : P.info? e = some i) (hz : i.zero = some z)
    (hsize : i.size = size) (hby : i.bytes = bytes) (hzs : z.cells.size = size) (hsz : 0 < size) (v : Value) (n : Nat) (xs : List Value) (hs : a.eval s = v) (hown : w.ownsRow base e size v n xs)
    (sl : Option Addr) (m c : Nat) (news : List Value) (hx : a.eval x = .slice sl m c) (hl : news.length = m * size) (hnews : ∀ j u, news[j]? = some u → ∃ b o, sl = some ⟨b, o, none⟩ ∧ w.cell? ⟨b, o + j, none⟩ = some u) (h1 : ∀ u ∈ news, u.oneCell' = true)
    (h63 : n + m ≤ maxLen) (hbytes : (n + m) * bytes ≤ 140737488355328) (hbase : base ≤ w.heap.size)
    (h : ∀ v' w', w'.ownsRow base e size v' (n + m) (xs ++ news) → w.grownBy w' v.ownBlock → wpList P ops Q rest (a.put o.dst v') w') : wpList P ops Q (o :: rest) a w :=
  wpList_plain hgd fun _ hK => wp_append_list w s x t ho base e i z size bytes ht hi hz hsize hby hzs hsz v n xs hs hown sl m c news hx hl hnews h1 h63 hbytes hbase fun v' w' h2 h3 => hK _ _ (h v' w' h2 h3)
theorem step_append_list {P : Program} (w : World) {ops : Array Oper} {o : Oper} {a : Act} {K : Act → World → Prop} {Q : Exit → Act → World → Prop} {E : Prop} (hgd : o.guard = none) (s x : Operand) (t : TypeId)
    (ho : o.op = .call { callee := .builtin .append, args := #[s, x], argTypes := #[t, t] }) (base : Nat) (e : TypeId) (i : TypeInfo) (z : Value) (size bytes : Nat) (ht : P.underlying t = some (.slice e)) (hi : P.info? e = some i) (hz : i.zero = some z)
    (hsize : i.size = size) (hby : i.bytes = bytes) (hzs : z.cells.size = size) (hsz : 0 < size) (v : Value) (n : Nat) (xs : List Value) (hs : a.eval s = v) (hown : w.ownsRow base e size v n xs)
    (sl : Option Addr) (m c : Nat) (news : List Value) (hx : a.eval x = .slice sl m c) (hl : news.length = m * size) (hnews : ∀ j u, news[j]? = some u → ∃ b o, sl = some ⟨b, o, none⟩ ∧ w.cell? ⟨b, o + j, none⟩ = some u) (h1 : ∀ u ∈ news, u.oneCell' = true)
    (h63 : n + m ≤ maxLen) (hbytes : (n + m) * bytes ≤ 140737488355328) (hbase : base ≤ w.heap.size)
    (h : ∀ v' w', w'.ownsRow base e size v' (n + m) (xs ++ news) → w.grownBy w' v.ownBlock → K (a.put o.dst v') w') :
    if Region.wanted o (yielded ops a.tmps) = true then Oper.wp P o a w K Q else E := by
  have hw : Region.wanted o (yielded ops a.tmps) = true := by simp [Region.wanted, hgd]
  rw [if_pos hw]
  exact wp_append_list w s x t ho base e i z size bytes ht hi hz hsize hby hzs hsz v n xs hs hown sl m c news hx hl hnews h1 h63 hbytes hbase h
/-- a list of one, made by a literal -/
theorem own_built (W : World) (cs : List Value) (base : Nat) (e : TypeId) (size n : Nat) (hb : base ≤ W.heap.size) (hl : cs.length = n * size) (hn : n ≤ maxLen) : (W.alloc (.cells cs.toArray e)).ownsRow base e size (.slice (some ⟨W.heap.size, 0, none⟩) n n) n cs :=
  ⟨hl, .inr ⟨W.heap.size, n, cs.toArray, rfl, hb, (by show (W.heap.push _)[W.heap.size]? = _; simp), Nat.le_refl _, hn, by simpa using hl, by simp [← hl]⟩⟩
/-- how a list reads, as the cells that are appended -/
theorem news_of {α : Type} {w : World} {B k bytes : Nat} {E : Nat → World → Nat → Nat → α → Prop} {enc : α → List Value} {a : Option Addr} {l : List α} (hk : ∀ x, (enc x).length = k) (hp : 0 < k) (h : RdSl B w k bytes E a l)
    (hE : ∀ b o x, E B w b o x → ∀ j u, (enc x)[j]? = some u → w.cell? ⟨b, o + j, none⟩ = some u) : ∀ j u, (l.flatMap enc)[j]? = some u → ∃ b o, a = some ⟨b, o, none⟩ ∧ w.cell? ⟨b, o + j, none⟩ = some u := by
  intro j u hj
  have hjl : j < l.length * k := by rw [← oflat_len hk l]; exact (List.getElem?_eq_some_iff.1 hj).1
  have hi : j / k < l.length := (Nat.div_lt_iff_lt_mul hp).2 hjl
  obtain ⟨x, hx⟩ : ∃ x, l[j / k]? = some x := ⟨l[j / k], List.getElem?_eq_getElem hi⟩
  have hm : j % k < k := Nat.mod_lt _ hp
  have h1 := oflat_get hk l (j / k) x (j % k) hx hm
  rw [Nat.div_add_mod' j k, hj] at h1
  obtain ⟨b, off, e, _, he⟩ := h.2 (j / k) x hx
  refine ⟨b, off, e, ?_⟩
  have := hE _ _ _ he (j % k) u h1.symm
  rwa [Nat.add_assoc, Nat.div_add_mod' j k] at this
theorem eBlk_cells {B : Nat} {w : World} {b o : Nat} {x : DBlk} (h : eBlk B w b o x) : ∀ j u, (encBlk x)[j]? = some u → w.cell? ⟨b, o + j, none⟩ = some u
  | 0, u, hj => by simp [encBlk] at hj; subst hj; exact h.1
  | 1, u, hj => by simp [encBlk] at hj; subst hj; exact h.2
  | j + 2, u, hj => by simp [encBlk] at hj
end Go.Proofs.YtmkjlhplgcifiaaGreat
namespace Go.Proofs.YtmkjlhplgcifiaaGreat
open Go.ChangeShapes Go.WideShapes Go.ChangeAt Go.RowKit
set_option linter.unusedVariables false
set_option linter.unusedSimpArgs false
/-- from W0 on nothing has turned but the row of v0, and v is that row or a newer one -/
structure Inv (W0 : World) (v0 : Value) (W : World) (v : Value) : Prop where
  gr : W0.grownBy W v0.ownBlock
  lie : ∀ g, v.ownBlock = some g → v0.ownBlock = some g ∨ W0.heap.size ≤ g
theorem Inv.refl (W : World) (v : Value) : Inv W v W v := ⟨⟨rfl, rfl, rfl, Nat.le_refl _, fun _ _ _ => rfl⟩, fun _ h => .inl h⟩
theorem Inv.ext {W0 W W' : World} {v0 v : Value} (h : Inv W0 v0 W v) (hb : Below W.heap.size W W') : Inv W0 v0 W' v :=
  ⟨⟨hb.os.trans h.gr.os, hb.tape.trans h.gr.tape, hb.output.trans h.gr.output, Nat.le_trans h.gr.size hb.size, fun k hk hne => (hb.block k (Nat.lt_of_lt_of_le hk h.gr.size)).trans (h.gr.block k hk hne)⟩, h.lie⟩
theorem Inv.trans {W0 W1 W2 : World} {v0 v1 v2 : Value} (h : Inv W0 v0 W1 v1) (k : Inv W1 v1 W2 v2) : Inv W0 v0 W2 v2 := by
  refine ⟨⟨k.gr.os.trans h.gr.os, k.gr.tape.trans h.gr.tape, k.gr.output.trans h.gr.output, Nat.le_trans h.gr.size k.gr.size, fun b hb hne => ?_⟩, fun g hg => ?_⟩
  · refine (k.gr.block b (Nat.lt_of_lt_of_le hb h.gr.size) (fun e => ?_)).trans (h.gr.block b hb hne)
    rcases h.lie b e.symm with e' | e'
    · exact hne e'.symm
    · omega
  · rcases k.lie g hg with e | e
    · exact h.lie g e
    · exact .inr (Nat.le_trans h.gr.size e)
theorem Inv.app {W w3 : World} {v v' : Value} (hg : W.grownBy w3 v.ownBlock) (ha : v'.ownBlock = v.ownBlock ∨ v'.ownBlock = some W.heap.size) : Inv W v w3 v' :=
  ⟨hg, fun g h => by
    rcases ha with e | e
    · exact .inl (e ▸ h)
    · rw [e] at h; cases h; exact .inr (Nat.le_refl _)⟩
theorem Inv.cell {W0 W : World} {v0 v : Value} (h : Inv W0 v0 W v) {b o : Nat} {u : Value} (hne : v0.ownBlock ≠ some b) (hc : W0.cell? ⟨b, o, none⟩ = some u) : W.cell? ⟨b, o, none⟩ = some u := h.gr.cell hc (fun e => hne e.symm)
theorem Inv.low {W0 W Wb : World} {v0 v : Value} {B : Nat} {e : TypeId} {size n : Nat} {xs : List Value} (h : Inv W0 v0 W v) (ho : Wb.ownsRow B e size v0 n xs) (hB : B ≤ W0.heap.size) : Below B W0 W :=
  (Below.refl B W0).grown h.gr hB (fun k hk => (ho.lt k hk).1)
theorem own_ne {w : World} {B : Nat} {e : TypeId} {size : Nat} {v : Value} {n : Nat} {xs : List Value} (h : w.ownsRow B e size v n xs) {b : Nat} (hb : b < B ∨ w.heap.size ≤ b) : v.ownBlock ≠ some b := fun e => by
  have := h.lt b e; omega
end Go.Proofs.YtmkjlhplgcifiaaGreat
