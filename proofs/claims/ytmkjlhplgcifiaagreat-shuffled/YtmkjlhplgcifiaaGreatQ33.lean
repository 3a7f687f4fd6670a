/-
  A list that is being built by appending, of elements that hold lists which lie anywhere but in some blocks that are still written.
  palisadekeep: turned, walked: rules the other way round, their peers and ports too.
-/
import Derived.Test.YtmkjlhplgcifiaaGreatQ31
import Derived.Test.YtmkjlhplgcifiaaGreatQ20
import Derived.Test.YtmkjlhplgcifiaaGreatQ17
import Derived.Deep.CutRange
import Derived.Deep.CutBlock
namespace Go.Proofs.YtmkjlhplgcifiaaGreat
open Go.ChangeShapes Go.WideShapes Go.ChangeAt Go.RowKit
attribute [local simp] World.cell?_grow
attribute [local go_sem] World.cell?_grow
attribute [local simp] World.cell?_alloc_there
attribute [local go_sem] World.cell?_alloc_there
attribute [local go_sem] eqg_blk std_blk eqg_pod std_pod eqg_sel std_sel eqg_prt std_prt
attribute [local go_sem ↓] eql_blk eql_sel neq_sel eql_prt eql_pod
attribute [local go_sem ↓] met_in1 met_in2 met_re1 met_re2
attribute [local go_sem ↓] met_has1 met_has2
attribute [local go_sem ↓] met_bl1 met_bl2
attribute [local go_sem] eqg_row std_row
attribute [local go_sem ↓] neq_row
set_option linter.unusedVariables false
set_option linter.unusedSimpArgs false

def orOwn (G : Nat → Bool) (v : Value) : Nat → Bool := fun b => G b || decide (v.ownBlock = some b)
theorem orOwn_false {G : Nat → Bool} {v : Value} {b : Nat} : orOwn G v b = false ↔ G b = false ∧ v.ownBlock ≠ some b := by simp [orOwn]
section
variable {X D : Type} {e : TypeId} {k : Nat} {enc : X → List Value} {N : Nat → World → X → Prop}
/-- v is a list of a base's own with the elements ys; what they hold lies outside G and outside v -/
def UpG (e : TypeId) (k : Nat) (enc : X → List Value) (N : Nat → World → X → Prop) (base : Nat) (G : Nat → Bool) (w : World) (v : Value) (ys : List X) : Prop :=
  w.ownsRow base e k v ys.length (ys.flatMap enc) ∧ ∀ y ∈ ys, N w.heap.size (hide w (orOwn G v)) y
theorem UpG.nil (base : Nat) (G : Nat → Bool) (w : World) : UpG e k enc N base G w (.slice none 0 0) [] := ⟨World.ownsRow_nil _ _ _ _, fun y hy => by simp at hy⟩
theorem UpG.grow (hN : Mono N) {base : Nat} {G : Nat → Bool} {w w' : World} {v : Value} {ys : List X} (h : UpG e k enc N base G w v ys) (hb : Below w.heap.size w w') : UpG e k enc N base G w' v ys :=
  ⟨own_to h.1 hb, fun y hy => hN _ _ _ _ y (Sub.grow hb) hb.size (h.2 y hy)⟩
theorem UpG.lt {base : Nat} {G : Nat → Bool} {w : World} {v : Value} {ys : List X} (h : UpG e k enc N base G w v ys) : ∀ g, v.ownBlock = some g → base ≤ g ∧ g < w.heap.size := fun g hg => h.1.lt g hg
theorem UpG.set (hN : Mono N) {base : Nat} {G : Nat → Bool} {w : World} {v : Value} {ys : List X} (h : UpG e k enc N base G w v ys) (p : Addr) (u : Value) (hp : p.block < base) (hG : G p.block = true) : UpG e k enc N base G (w.setCell p u) v ys :=
  ⟨row_set h.1 p u hp, fun y hy => hN _ _ _ _ y (Sub.set p u (by simp [orOwn, hG])) (by simp) (h.2 y hy)⟩
theorem UpG.app (hN : Mono N) {base : Nat} {G : Nat → Bool} {w w' : World} {v v' : Value} {ys : List X} {y : X} (h : UpG e k enc N base G w v ys)
    (hy : N w.heap.size (hide w (orOwn G v)) y) (ho : w'.ownsRow base e k v' (ys.length + 1) (ys.flatMap enc ++ enc y)) (hg : w.grownBy w' v.ownBlock) (ha : v'.ownBlock = v.ownBlock ∨ v'.ownBlock = some w.heap.size) :
    UpG e k enc N base G w' v' (ys ++ [y]) := by
  have hs : Sub (hide w (orOwn G v)) (hide w' (orOwn G v')) := Sub.hide fun b hb hG => by
    obtain ⟨h1, h2⟩ := orOwn_false.1 hG
    refine ⟨orOwn_false.2 ⟨h1, ?_⟩, hg.block b hb (fun e => h2 e.symm)⟩
    rcases ha with e | e
    · rw [e]; exact h2
    · rw [e]; intro e'; cases e'; omega
  refine ⟨?_, fun z hz => ?_⟩
  · rw [List.length_append, List.flatMap_append]
    simpa using ho
  · rcases List.mem_append.1 hz with hz | hz
    · exact hN _ _ _ _ z hs hg.size (h.2 z hz)
    · simp at hz
      subst hz
      exact hN _ _ _ _ z hs hg.size hy
theorem UpG.done (hN : Mono N) {bytes base : Nat} {G : Nat → Bool} {E : Nat → World → Nat → Nat → D → Prop} {d : X → D} {w : World} {v : Value} {ys : List X} (hk : ∀ x, (enc x).length = k) (hp : 0 < k) (h : UpG e k enc N base G w v ys) (hG : ∀ g, v.ownBlock = some g → G g = false) (hy : ys.length * bytes ≤ 140737488351232)
    (hE : ∀ (B : Nat) (w : World) (b o : Nat) (y : X), N B w y → (∀ j u, (enc y)[j]? = some u → w.cell? ⟨b, o + j, none⟩ = some u) → E B w b o (d y)) :
    ∃ a c, v = .slice a (ys.map d).length c ∧ (ys.map d).length ≤ c ∧ RdSl w.heap.size (hide w G) k bytes E a (ys.map d) := by
  have ho : (hide w G).ownsRow base e k v ys.length (ys.flatMap enc) := own_stay h.1 fun g hg => hide_block _ _ _ (hG g hg)
  have hs : Sub (hide w (orOwn G v)) (hide w G) := Sub.hide fun b hb hG => ⟨(orOwn_false.1 hG).1, rfl⟩
  obtain ⟨a, c, e1, e2, e3⟩ := own_rd (E := fun B w b o y => E B w b o (d y)) (bytes := bytes) hk ho hp hy fun b o x hx hb hc => by
    rw [hide_size] at hb ⊢
    exact hE _ _ _ _ x (hN _ _ _ _ x hs (Nat.le_refl _) (h.2 x hx)) hc
  rw [hide_size] at e3
  refine ⟨a, c, by rw [List.length_map]; exact e1, by rw [List.length_map]; exact e2, by rw [List.length_map]; exact e3.1, fun i x hx => ?_⟩
  rw [List.getElem?_map] at hx
  cases hi : ys[i]? with
  | none => rw [hi] at hx; cases hx
  | some y =>
    rw [hi] at hx
    cases hx
    exact e3.2 i y hi
/-- memory grows, and a block q of G's is written -/
theorem UpG.gb (hN : Mono N) {base q : Nat} {G : Nat → Bool} {w w' : World} {v : Value} {ys : List X} (h : UpG e k enc N base G w v ys) (hg : w.grownBy w' (some q)) (hq : q < base) (hG : G q = true) : UpG e k enc N base G w' v ys :=
  ⟨own_stay h.1 fun g hgv => hg.block g (h.lt g hgv).2 (fun e => by cases e; have := (h.lt _ hgv).1; omega),
   fun y hy => hN _ _ _ _ y (Sub.hide fun b hb hb2 => ⟨hb2, hg.block b hb (fun e => by cases e; rw [(orOwn_false.1 hb2).1] at hG; cases hG)⟩) hg.size (h.2 y hy)⟩
end
/-- blocks of G below a bound -/
def gl (G : Nat → Bool) (n : Nat) : Nat → Bool := fun b => decide (b < n) && G b
theorem gl_new {G : Nat → Bool} {n b : Nat} (h : n ≤ b) : gl G n b = false := by simp [gl]; omega
theorem gl_old {G : Nat → Bool} {n b : Nat} (h : b < n) : gl G n b = G b := by simp [gl, h]
/-- what reads outside G reads behind all that is new -/
theorem sub_gl {G : Nat → Bool} {w w' : World} {n : Nat} (hn : w.heap.size ≤ n) (hb : Below w.heap.size w w') : Sub (hide w G) (hide w' (gl G n)) :=
  Sub.hide fun b hb2 hG => ⟨by rw [gl_old (by omega)]; exact hG, hb.block b hb2⟩
end Go.Proofs.YtmkjlhplgcifiaaGreat
namespace Go.Proofs.YtmkjlhplgcifiaaGreat
open Go.ChangeShapes Go.WideShapes Go.ChangeAt Go.RowKit
attribute [local simp] World.cell?_grow
attribute [local go_sem] World.cell?_grow
attribute [local simp] World.cell?_alloc_there
attribute [local go_sem] World.cell?_alloc_there
attribute [local go_sem] eqg_blk std_blk eqg_pod std_pod eqg_sel std_sel eqg_prt std_prt
attribute [local go_sem ↓] eql_blk eql_sel neq_sel eql_prt eql_pod
attribute [local go_sem ↓] met_in1 met_in2 met_re1 met_re2
attribute [local go_sem ↓] met_has1 met_has2
attribute [local go_sem ↓] met_bl1 met_bl2
attribute [local go_sem] eqg_row std_row
attribute [local go_sem ↓] neq_row
set_option linter.unusedVariables false
set_option linter.unusedSimpArgs false

def turnR (r : DRule) : DRule := ⟨r.peers.reverse, r.ports.reverse⟩
def turn (l : List DRule) : List DRule := (l.map turnR).reverse
theorem rev_step {α β : Type} {l : List α} {m : Nat} {x : α} (f : α → β) (h : l[m]? = some x) : ((l.drop m).map f).reverse = ((l.drop (m + 1)).map f).reverse ++ [f x] := by
  obtain ⟨hm, rfl⟩ := List.getElem?_eq_some_iff.1 h
  rw [List.drop_eq_getElem_cons hm, List.map_cons, List.reverse_cons]
theorem rev_step' {α : Type} {l : List α} {m : Nat} {x : α} (h : l[m]? = some x) : (l.drop m).reverse = (l.drop (m + 1)).reverse ++ [x] := by
  obtain ⟨hm, rfl⟩ := List.getElem?_eq_some_iff.1 h
  rw [List.drop_eq_getElem_cons hm, List.reverse_cons]
/-- old blocks of G, and all blocks between two bounds -/
def mid (G : Nat → Bool) (n m : Nat) : Nat → Bool := fun b => if b < n then G b else decide (b < m)
theorem mid_false {G : Nat → Bool} {n m b : Nat} : mid G n m b = false ↔ (b < n ∧ G b = false) ∨ (n ≤ b ∧ m ≤ b) := by
  unfold mid
  split
  · rename_i h; constructor
    · intro hg; exact .inl ⟨h, hg⟩
    · rintro (⟨_, hg⟩ | ⟨h1, _⟩)
      · exact hg
      · omega
  · rename_i h; constructor
    · intro hg; exact .inr ⟨by omega, by simpa using hg⟩
    · rintro (⟨h1, _⟩ | ⟨_, h2⟩)
      · omega
      · simpa using h2
theorem mid_true {G : Nat → Bool} {n m b : Nat} (h1 : n ≤ b) (h2 : b < m) : mid G n m b = true := by
  unfold mid; rw [if_neg (by omega)]; simpa using h2
theorem sub_mid {G : Nat → Bool} {n m : Nat} {w : World} {v : Value} (hnm : n ≤ m) (hv : ∀ g, v.ownBlock = some g → n ≤ g ∧ g < m) : Sub (hide w (mid G n m)) (hide w (orOwn (mid G n n) v)) :=
  Sub.hide fun b hb hG => ⟨orOwn_false.2 ⟨by
    rcases mid_false.1 hG with h | h
    · exact mid_false.2 (.inl h)
    · exact mid_false.2 (.inr ⟨h.1, by omega⟩), fun e => by
    have := hv b e
    rcases mid_false.1 hG with h | h <;> omega⟩, rfl⟩
/-- what reads outside G in an old world reads outside the blocks between -/
theorem sub_mid_old {G : Nat → Bool} {m : Nat} {w w' : World} (hb : Below w.heap.size w w') : Sub (hide w G) (hide w' (mid G w.heap.size m)) :=
  Sub.hide fun b hb2 hG => ⟨mid_false.2 (.inl ⟨hb2, hG⟩), hb.block b hb2⟩
theorem sub_old {G : Nat → Bool} {m : Nat} {w w' : World} {v : Value} (hb : Below w.heap.size w w') (hv : ∀ g, v.ownBlock = some g → w.heap.size ≤ g) : Sub (hide w G) (hide w' (orOwn (mid G w.heap.size m) v)) :=
  Sub.hide fun b hb2 hG => ⟨orOwn_false.2 ⟨mid_false.2 (.inl ⟨hb2, hG⟩), fun e => by have := hv b e; omega⟩, hb.block b hb2⟩
abbrev UpGPeers := UpG 69 7 encXPeer NPeer
abbrev UpGRules := UpG 64 2 encXRule NRule
theorem upGPeers_done {base : Nat} {G : Nat → Bool} {w : World} {v : Value} {l : List XPeer} (h : UpGPeers base G w v l) (hG : ∀ g, v.ownBlock = some g → G g = false) (hl : l.length * 72 ≤ 140737488351232) : ∃ a c, v = .slice a (l.map (·.d)).length c ∧ (l.map (·.d)).length ≤ c ∧ rdPeers w.heap.size (hide w G) a (l.map (·.d)) :=
  UpG.done NPeer.mono encXPeer_len (by decide) h hG hl fun B w b o y hN hc => ⟨hc 0 _ rfl, hc 1 _ rfl, hc 2 _ rfl, hc 3 _ rfl, hc 4 _ rfl, hc 5 _ rfl, y.ea, y.ec, hc 6 _ rfl, hN⟩
theorem upGRules_done {base : Nat} {G : Nat → Bool} {w : World} {v : Value} {l : List XRule} (h : UpGRules base G w v l) (hG : ∀ g, v.ownBlock = some g → G g = false) (hl : l.length * 48 ≤ 140737488351232) : ∃ a c, v = .slice a (l.map (·.d)).length c ∧ (l.map (·.d)).length ≤ c ∧ rdRules w.heap.size (hide w G) a (l.map (·.d)) :=
  UpG.done NRule.mono encXRule_len (by decide) h hG hl fun B w b o y hN hc => ⟨⟨y.pa, y.pc, hc 0 _ rfl, hN.1⟩, y.qa, y.qc, hc 1 _ rfl, hN.2⟩

set_option maxRecDepth 100000 in
set_option maxHeartbeats 8000000 in
theorem turned_any (G : Nat → Bool) (l : List DRule) (la : Option Addr) (lc : Nat) (w : World) (hl : rdRules w.heap.size (hide w G) la l) :
    Calls Tryz.prog 21 #[.slice la l.length lc] w
      fun e w' => (∃ a c, e = .returned (.slice a (turn l).length c) ∧ (turn l).length ≤ c ∧ rdRules w'.heap.size (hide w' (mid G w.heap.size w.heap.size)) a (turn l)) ∧ Below w.heap.size w w' := by
  have HL := hid hl
  have hlen := hl.1
  clear hl
  obtain ⟨ip0, hip, ipz0, ipz1, ipz2⟩ := info_parts info_peer
  obtain ⟨iq0, hiq, iqz0, iqz1, iqz2⟩ := info_parts info_port
  obtain ⟨ir0, hir, irz0, irz1, irz2⟩ := info_parts info_rule
  go_enter Tryz.func21, Tryz.ntmps21
  go_wp2
  go_loopw [3, 4] (fun v i wr => ∃ (m : Nat) (xs : List XRule), m ≤ l.length ∧ i = .int .i64 ((m : Int) - 1) ∧ xs.map (·.d) = ((l.drop m).map turnR).reverse ∧ UpGRules w.heap.size (mid G w.heap.size w.heap.size) wr v xs ∧ Below w.heap.size w wr) (fun _ i _ => (intOf i + 1).toNat)
  case atStart => exact ⟨l.length, [], Nat.le_refl _, rfl, by simp, UpG.nil _ _ _, Below.refl _ _⟩
  case round =>
    obtain ⟨m, xs, hm, rfl, hxs, hup, hbw⟩ := hrel
    obtain ⟨kv, hkv⟩ : ∃ v, v = u3 := ⟨_, rfl⟩
    obtain ⟨wa, hwa⟩ : ∃ wa, wa = wr := ⟨_, rfl⟩
    subst hkv hwa
    have hxl : xs.length ≤ l.length := by have h := congrArg List.length hxs; simp at h; omega
    have HXS := hid hxs
    have HU := hid hup
    have HB := hid hbw
    have hwa := hbw.size
    clear hxs hup
    by_cases hlt : 1 ≤ m
    · obtain ⟨k, rfl⟩ : ∃ k, m = k + 1 := ⟨m - 1, by omega⟩
      rw [show (((k + 1 : Nat) : Int) - 1) = (k : Int) by omega]
      obtain ⟨r, hrk⟩ : ∃ r, l[k]? = some r := ⟨l[k]'(by omega), by simp⟩
      have HRK := hid hrk
      obtain ⟨b, off, rfl, hb, ⟨pa, pc, c0, hrp⟩, qa, qc, c1, hrq⟩ := HL.out.2 k r hrk
      have HRP := hid hrp
      have HRQ := hid hrq
      have c0' : w.cell? ⟨b, off + k * 2, none⟩ = some (.slice pa r.peers.length pc) := Sub.show _ _ _ _ _ c0
      have c1' : w.cell? ⟨b, off + k * 2 + 1, none⟩ = some (.slice qa r.ports.length qc) := Sub.show _ _ _ _ _ c1
      have d0 := cell_to c0' hbw
      have d1 := cell_to c1' hbw
      have z0 : (0 : Int) ≤ (k : Int) := by omega
      have z1 : (k : Int) < (l.length : Int) := by omega
      have hpl := hrp.1
      have hql := hrq.1
      clear hrk hrp hrq c0 c1 c0' c1'
      go_upto_block 2 with fail
      have e0 := cell_past (o := (.cells #[.slice none 0 0, .slice none 0 0] 64)) d0
      have e1 := cell_past (o := (.cells #[.slice none 0 0, .slice none 0 0] 64)) d1
      have hW2 : (wa.alloc (.cells #[.slice none 0 0, .slice none 0 0] 64)).heap.size = wa.heap.size + 1 := World.size_alloc _ _
      have hr2 : (wa.alloc (.cells #[.slice none 0 0, .slice none 0 0] 64)).heap[wa.heap.size]? = some (.cells #[.slice none 0 0, .slice none 0 0] 64 (0, 0)) := new_heap _ _
      have hB2 : Below wa.heap.size wa (wa.alloc (.cells #[.slice none 0 0, .slice none 0 0] 64)) := (Below.refl _ _).alloc (Nat.le_refl _) _
      generalize wa.alloc (.cells #[.slice none 0 0, .slice none 0 0] 64) = W2 at e0 e1 hW2 hr2 hB2 ⊢
      have HR2 := hid hr2
      have HB2 := hid hB2
      clear d0 d1 hr2 hB2
      go_cut [] from 22 to 38 (fun wx => ∃ (v : Value) (ys : List XPeer), ys.map (·.d) = r.peers.reverse ∧ wx.heap[wa.heap.size]? = some (.cells #[v, .slice none 0 0] 64 (0, 0)) ∧ UpGPeers W2.heap.size (mid G w.heap.size W2.heap.size) wx v ys ∧ W2.grownBy wx (some wa.heap.size))
      case first =>
        go_wp2_with fail
        go_loopw [6] (fun i wr => ∃ (j : Nat) (v : Value) (ys : List XPeer), j ≤ r.peers.length ∧ i = .int .i64 ((j : Int) - 1) ∧ ys.map (·.d) = (r.peers.drop j).reverse ∧ wr.heap[wa.heap.size]? = some (.cells #[v, .slice none 0 0] 64 (0, 0)) ∧ UpGPeers W2.heap.size (mid G w.heap.size W2.heap.size) wr v ys ∧ W2.grownBy wr (some wa.heap.size)) (fun i _ => (intOf i + 1).toNat)
        case atStart => exact ⟨r.peers.length, .slice none 0 0, [], Nat.le_refl _, rfl, by simp, HR2.out, UpG.nil _ _ _, gb_refl _ _⟩
        case round =>
          obtain ⟨j, v, ys, hj, rfl, hys, hrb, hup2, hg2⟩ := hrel
          obtain ⟨wb, hwb⟩ : ∃ wb, wb = wr := ⟨_, rfl⟩
          subst hwb
          have hYl : ys.length ≤ r.peers.length := by have h := congrArg List.length hys; simp at h; omega
          have HYS := hid hys
          have HRB := hid hrb
          have HU2 := hid hup2
          have HG2 := hid hg2
          have hsb := hg2.size
          have f0 : wb.cell? ⟨b, off + k * 2, none⟩ = some (.slice pa r.peers.length pc) := hg2.cell e0 (fun e => by have := Option.some.inj e; simp only at this; omega)
          have f1 : wb.cell? ⟨b, off + k * 2 + 1, none⟩ = some (.slice qa r.ports.length qc) := hg2.cell e1 (fun e => by have := Option.some.inj e; simp only at this; omega)
          have g0 : wb.cell? ⟨wa.heap.size, 0, none⟩ = some v := (blk_cell hrb 0).trans rfl
          have g1 : wb.cell? ⟨wa.heap.size, 1, none⟩ = some (.slice none 0 0) := (blk_cell hrb 1).trans rfl
          have gf := blk_frozen hrb
          have HBw := hid (show Below w.heap.size w wb from HB.out.trans ((HB2.out.mono hwa).trans (gb_low hg2 hwa (by omega))))
          clear hys hrb hup2 hg2
          by_cases hltj : 1 ≤ j
          · obtain ⟨t, rfl⟩ : ∃ t, j = t + 1 := ⟨j - 1, by omega⟩
            rw [show (((t + 1 : Nat) : Int) - 1) = (t : Int) by omega]
            obtain ⟨p, hpj⟩ : ∃ p, r.peers[t]? = some p := ⟨r.peers[t]'(by omega), by simp⟩
            have HPJ := hid hpj
            obtain ⟨pb, po, rfl, hpb, p0, p1, p2, p3, p4, p5, ea, ec, p6, hre⟩ := HRP.out.2 t p hpj
            have HRE := hid hre
            have z3 : (t : Int) < (r.peers.length : Int) := by omega
            have z4 : (0 : Int) ≤ (t : Int) := by omega
            have q0 := cell_to (Sub.show _ _ _ _ _ p0) HBw.out
            have q1 := cell_to (Sub.show _ _ _ _ _ p1) HBw.out
            have q2 := cell_to (Sub.show _ _ _ _ _ p2) HBw.out
            have q3 := cell_to (Sub.show _ _ _ _ _ p3) HBw.out
            have q4 := cell_to (Sub.show _ _ _ _ _ p4) HBw.out
            have q5 := cell_to (Sub.show _ _ _ _ _ p5) HBw.out
            have q6 := cell_to (Sub.show _ _ _ _ _ p6) HBw.out
            have HVB := hid (show ∀ g, v.ownBlock = some g → W2.heap.size ≤ g from fun g hg => (HU2.out.lt g hg).1)
            have HVL := hid (show ∀ g, v.ownBlock = some g → g < wb.heap.size from fun g hg => (HU2.out.lt g hg).2)
            clear hpj hre p0 p1 p2 p3 p4 p5 p6
            go_wp2_with fail
            refine wp_region_held_tail (S := (fun w' => w'.cell? ⟨wa.heap.size, 0, none⟩ = some v ∧ w'.cell? ⟨b, off + k * 2, none⟩ = some (.slice (some ⟨pb, po, none⟩) r.peers.length pc) ∧ w'.cell? ⟨pb, po + t * 7, none⟩ = some (.int .i64 p.kind) ∧ w'.cell? ⟨pb, po + t * 7 + 1, none⟩ = some (.int .i64 p.need) ∧ w'.cell? ⟨pb, po + t * 7 + 2, none⟩ = some (.int .i64 p.ban) ∧ w'.cell? ⟨pb, po + t * 7 + 3, none⟩ = some (.int .i64 p.spaces) ∧ w'.cell? ⟨pb, po + t * 7 + 4, none⟩ = some (.int .i64 p.base) ∧ w'.cell? ⟨pb, po + t * 7 + 5, none⟩ = some (.int .i64 p.bits) ∧ w'.cell? ⟨pb, po + t * 7 + 6, none⟩ = some (.slice ea p.exc.length ec))) 12 (by kernel_rfl) (by kernel_rfl) ?_
            simp only [takes_12, drops_12]
            have hS0 : (fun w' => w'.cell? ⟨wa.heap.size, 0, none⟩ = some v ∧ w'.cell? ⟨b, off + k * 2, none⟩ = some (.slice (some ⟨pb, po, none⟩) r.peers.length pc) ∧ w'.cell? ⟨pb, po + t * 7, none⟩ = some (.int .i64 p.kind) ∧ w'.cell? ⟨pb, po + t * 7 + 1, none⟩ = some (.int .i64 p.need) ∧ w'.cell? ⟨pb, po + t * 7 + 2, none⟩ = some (.int .i64 p.ban) ∧ w'.cell? ⟨pb, po + t * 7 + 3, none⟩ = some (.int .i64 p.spaces) ∧ w'.cell? ⟨pb, po + t * 7 + 4, none⟩ = some (.int .i64 p.base) ∧ w'.cell? ⟨pb, po + t * 7 + 5, none⟩ = some (.int .i64 p.bits) ∧ w'.cell? ⟨pb, po + t * 7 + 6, none⟩ = some (.slice ea p.exc.length ec)) wb.drew := ⟨g0, f0, q0, q1, q2, q3, q4, q5, q6⟩
            refine htake_0 (.pointer (some ⟨wa.heap.size, 0, none⟩)) (by kernel_rfl) (by kernel_rfl) (by kernel_rfl) rfl (fun _ _ _ h => h) (fun w' hSw => by (obtain ⟨s0, s1, s2, s3, s4, s5, s6, s7, s8⟩ := hSw; go_simp)) hS0 ?_
            try simp only [Act.put, List.setIfInBounds_toArray, List.set_cons_zero, List.set_cons_succ]
            refine htake_1 (v) (by kernel_rfl) (by kernel_rfl) (by kernel_rfl) rfl (fun _ _ _ h => h) (fun w' hSw => by (obtain ⟨s0, s1, s2, s3, s4, s5, s6, s7, s8⟩ := hSw; go_simp)) hS0 ?_
            try simp only [Act.put, List.setIfInBounds_toArray, List.set_cons_zero, List.set_cons_succ]
            refine htake_2 (.slice (some ⟨b, off, none⟩) l.length lc) (by kernel_rfl) (by kernel_rfl) (by kernel_rfl) rfl (fun _ _ _ h => h) (fun w' hSw => by (obtain ⟨s0, s1, s2, s3, s4, s5, s6, s7, s8⟩ := hSw; go_simp)) hS0 ?_
            try simp only [Act.put, List.setIfInBounds_toArray, List.set_cons_zero, List.set_cons_succ]
            refine htake_3 (.int .i64 k) (by kernel_rfl) (by kernel_rfl) (by kernel_rfl) rfl (fun _ _ _ h => h) (fun w' hSw => by (obtain ⟨s0, s1, s2, s3, s4, s5, s6, s7, s8⟩ := hSw; go_simp)) hS0 ?_
            try simp only [Act.put, List.setIfInBounds_toArray, List.set_cons_zero, List.set_cons_succ]
            refine htake_4 (.pointer (some ⟨b, off + k * 2, none⟩)) (by kernel_rfl) (by kernel_rfl) (by kernel_rfl) rfl (fun _ _ _ h => h) (fun w' hSw => by (obtain ⟨s0, s1, s2, s3, s4, s5, s6, s7, s8⟩ := hSw; go_simp)) hS0 ?_
            try simp only [Act.put, List.setIfInBounds_toArray, List.set_cons_zero, List.set_cons_succ]
            refine htake_5 (.pointer (some ⟨b, off + k * 2, none⟩)) (by kernel_rfl) (by kernel_rfl) (by kernel_rfl) rfl (fun _ _ _ h => h) (fun w' hSw => by (obtain ⟨s0, s1, s2, s3, s4, s5, s6, s7, s8⟩ := hSw; go_simp)) hS0 ?_
            try simp only [Act.put, List.setIfInBounds_toArray, List.set_cons_zero, List.set_cons_succ]
            refine htake_6 (.slice (some ⟨pb, po, none⟩) r.peers.length pc) (by kernel_rfl) (by kernel_rfl) (by kernel_rfl) rfl (fun _ _ _ h => h) (fun w' hSw => by (obtain ⟨s0, s1, s2, s3, s4, s5, s6, s7, s8⟩ := hSw; go_simp)) hS0 ?_
            try simp only [Act.put, List.setIfInBounds_toArray, List.set_cons_zero, List.set_cons_succ]
            refine htake_7 (.int .i64 t) (by kernel_rfl) (by kernel_rfl) (by kernel_rfl) rfl (fun _ _ _ h => h) (fun w' hSw => by (obtain ⟨s0, s1, s2, s3, s4, s5, s6, s7, s8⟩ := hSw; go_simp)) hS0 ?_
            try simp only [Act.put, List.setIfInBounds_toArray, List.set_cons_zero, List.set_cons_succ]
            refine htake_8 (.pointer (some ⟨pb, po + t * 7, none⟩)) (by kernel_rfl) (by kernel_rfl) (by kernel_rfl) rfl (fun _ _ _ h => h) (fun w' hSw => by (obtain ⟨s0, s1, s2, s3, s4, s5, s6, s7, s8⟩ := hSw; go_simp)) hS0 ?_
            try simp only [Act.put, List.setIfInBounds_toArray, List.set_cons_zero, List.set_cons_succ]
            refine htake_9 (.agg #[.int .i64 p.kind, .int .i64 p.need, .int .i64 p.ban, .int .i64 p.spaces, .int .i64 p.base, .int .i64 p.bits, .slice ea p.exc.length ec]) (by kernel_rfl) (by kernel_rfl) (by kernel_rfl) rfl (fun _ _ _ h => h) (fun w' hSw => by (obtain ⟨s0, s1, s2, s3, s4, s5, s6, s7, s8⟩ := hSw; go_simp)) hS0 ?_
            try simp only [Act.put, List.setIfInBounds_toArray, List.set_cons_zero, List.set_cons_succ]
            refine hone_10 (by kernel_rfl) rfl (fun K hK => ?_)
            go_simp
            have hBA : Below wb.heap.size wb (wb.alloc (.cells #[.int .i64 p.kind, .int .i64 p.need, .int .i64 p.ban, .int .i64 p.spaces, .int .i64 p.base, .int .i64 p.bits, .slice ea p.exc.length ec] 69)).drew := ((Below.refl _ wb).alloc (Nat.le_refl _) _).drew
            have HUA := hid (HU2.out.grow NPeer.mono hBA)
            have HBA := hid hBA
            refine hK _ _ ⟨cell_past (w := wb) g0, cell_past (w := wb) f0, cell_past (w := wb) q0, cell_past (w := wb) q1, cell_past (w := wb) q2, cell_past (w := wb) q3, cell_past (w := wb) q4, cell_past (w := wb) q5, cell_past (w := wb) q6⟩ ?_
            try simp only [Act.put, List.setIfInBounds_toArray, List.set_cons_zero, List.set_cons_succ]
            clear hK hBA
            refine hone_11 (by kernel_rfl) rfl (fun K hK => ?_)
            refine wp_append_at _ (.tmp 27) (.tmp 36) 61 rfl W2.heap.size 69 ip0 _ 7 72 Tryz.underlying61 hip ipz0 ipz1 ipz2 rfl (by decide) v _ _ rfl HUA.out.1 ⟨wb.heap.size, 0, none⟩ 1 1 (encXPeer ⟨p, ea, ec⟩) rfl rfl (cell_new_list wb.drew (encXPeer ⟨p, ea, ec⟩) _) (by intro u hu; simp only [encXPeer, List.mem_cons, List.not_mem_nil, or_false] at hu; rcases hu with rfl | rfl | rfl | rfl | rfl | rfl | rfl <;> rfl) (by unfold maxLen; omega) (by omega) (by show W2.heap.size ≤ (wb.alloc _).heap.size; rw [World.size_alloc]; omega) ?_
            intro v' w6 hown6 hg6 hat6
            obtain ⟨a6, c6, rfl, _, _⟩ := own_slice hown6
            have t6 : w6.heap[wa.heap.size]? = some (.cells #[v, .slice none 0 0] 64 (0, 0)) := (hg6.block wa.heap.size (by show wa.heap.size < (wb.alloc _).heap.size; rw [World.size_alloc]; omega) (fun e => by have := HVB.out _ e.symm; omega)).trans ((Below.heap_alloc _ _ _ (by omega)).trans HRB.out)
            have HO6 := hid hown6
            have HG6 := hid hg6
            have HA6 := hid hat6
            have t0 : w6.cell? ⟨wa.heap.size, 0, none⟩ = some v := (blk_cell t6 0).trans rfl
            have tf := blk_frozen t6
            have HT := hid t6
            have hl6 : ∀ g, v.ownBlock = some g → g ≠ b ∧ g ≠ pb := fun g hg => by have := HVB.out g hg; omega
            have hS6 : w6.cell? ⟨b, off + k * 2, none⟩ = some (.slice (some ⟨pb, po, none⟩) r.peers.length pc) := hg6.cell (cell_past (w := wb) f0) (fun e => by have := HVB.out _ e.symm; simp only at this; omega)
            have n0 := hg6.cell (cell_past (w := wb) q0) (fun e => by have := HVB.out _ e.symm; simp only at this; omega)
            have n1 := hg6.cell (cell_past (w := wb) q1) (fun e => by have := HVB.out _ e.symm; simp only at this; omega)
            have n2 := hg6.cell (cell_past (w := wb) q2) (fun e => by have := HVB.out _ e.symm; simp only at this; omega)
            have n3 := hg6.cell (cell_past (w := wb) q3) (fun e => by have := HVB.out _ e.symm; simp only at this; omega)
            have n4 := hg6.cell (cell_past (w := wb) q4) (fun e => by have := HVB.out _ e.symm; simp only at this; omega)
            have n5 := hg6.cell (cell_past (w := wb) q5) (fun e => by have := HVB.out _ e.symm; simp only at this; omega)
            have n6 := hg6.cell (cell_past (w := wb) q6) (fun e => by have := HVB.out _ e.symm; simp only at this; omega)
            clear hown6 hg6 hat6 t6
            refine hK _ _ ⟨t0, hS6, n0, n1, n2, n3, n4, n5, n6⟩ ?_
            refine wpAnyH_done (by kernel_rfl) ?_ _
            show wpList _ _ _ _ _ _
            try simp only [Act.put, List.setIfInBounds_toArray, List.set_cons_zero, List.set_cons_succ]
            clear hK hS0 hS6 n0 n1 n2 n3 n4 n5 n6 q0 q1 q2 q3 q4 q5 q6 f0 f1 g0 g1 hl6
            go_wp2
            have hNy : NPeer (wb.alloc (.cells #[.int .i64 p.kind, .int .i64 p.need, .int .i64 p.ban, .int .i64 p.spaces, .int .i64 p.base, .int .i64 p.bits, .slice ea p.exc.length ec] 69)).drew.heap.size (hide (wb.alloc (.cells #[.int .i64 p.kind, .int .i64 p.need, .int .i64 p.ban, .int .i64 p.spaces, .int .i64 p.base, .int .i64 p.bits, .slice ea p.exc.length ec] 69)).drew (orOwn (mid G w.heap.size W2.heap.size) v)) ⟨p, ea, ec⟩ := rdBlks.sub (sub_old (HBw.out.trans (HBA.out.mono HBw.out.size)) (fun g hg => by have := HVB.out g hg; omega)) (Nat.le_trans HBw.out.size HBA.out.size) HRE.out
            refine ⟨⟨t, _, ys ++ [⟨p, ea, ec⟩], by omega, rfl, ?_, (set_blk HT.out 0 _).trans rfl, ?_, gb_set (gb_row (gb_below HG2.out HBA.out) HG6.out HVB.out) 0 _⟩, by simp [intOf]⟩
            · rw [List.map_append, HYS.out]; exact (rev_step' HPJ.out).symm
            · have g3 := UpG.app NPeer.mono HUA.out hNy HO6.out HG6.out HA6.out
              exact g3.set NPeer.mono ⟨wa.heap.size, 0, none⟩ _ (by show wa.heap.size < W2.heap.size; omega) (mid_true hwa (by show wa.heap.size < W2.heap.size; omega))
          · have hj0 : j = 0 := by omega
            subst hj0
            rw [show (((0 : Nat) : Int) - 1) = -1 from rfl]
            go_wp2
            go_meet
            exact ⟨v, ys, by rw [HYS.out]; rfl, HRB.out, HU2.out, HG2.out⟩
      case rest =>
        obtain ⟨v, ys, hys, hrb, hup2, hg2⟩ := hcut
        have hyl : ys.length = r.peers.length := by have h := congrArg List.length hys; simpa using h
        obtain ⟨pa2, pc2, rfl, hpc2, hrp2⟩ := upGPeers_done hup2 (fun g hg => mid_false.2 (.inr ⟨by have := (hup2.lt g hg).1; omega, (hup2.lt g hg).1⟩)) (by omega)
        rw [hys] at hrp2 hrb hup2
        obtain ⟨ps, hps⟩ : ∃ ps, ps = r.peers.reverse := ⟨_, rfl⟩
        rw [← hps] at hrp2 hrb hup2
        have HPS := hid hps
        have HRP2 := hid hrp2
        have HRB2 := hid hrb
        have HG2 := hid hg2
        have hsc := hg2.size
        have f1 : wc.cell? ⟨b, off + k * 2 + 1, none⟩ = some (.slice qa r.ports.length qc) := hg2.cell e1 (fun e => by have := Option.some.inj e; simp only at this; omega)
        have HBca := hid (show Below wa.heap.size wa wc from HB2.out.trans (gb_low hg2 (Nat.le_refl _) (by omega)))
        clear hys hps hrp2 hrb hg2 hup2 e0 e1
        obtain ⟨wq, hwq⟩ : ∃ wq, wq = wc := ⟨_, rfl⟩
        subst hwq
        go_wp2_with fail
        go_loopw [7] (fun i wr => ∃ (j : Nat) (v2 : Value) (qs : List DPort), j ≤ r.ports.length ∧ i = .int .i64 ((j : Int) - 1) ∧ qs = (r.ports.drop j).reverse ∧ wr.heap[wa.heap.size]? = some (.cells #[.slice pa2 ps.length pc2, v2] 64 (0, 0)) ∧ UpPorts wq.heap.size wr v2 qs ∧ wq.grownBy wr (some wa.heap.size)) (fun i _ => (intOf i + 1).toNat)
        case atStart => exact ⟨r.ports.length, .slice none 0 0, [], Nat.le_refl _, rfl, by simp, HRB2.out, Up.nil _ _, gb_refl _ _⟩
        case round =>
          obtain ⟨j, v2, qs, hj, rfl, hqs, hqb, hup3, hg3⟩ := hrel
          have hml : qs.length ≤ r.ports.length := by rw [hqs]; simp
          have HQS := hid hqs
          clear hqs
          obtain ⟨wd, hwd⟩ : ∃ wd, wd = wr := ⟨_, rfl⟩
          subst hwd
          have HQB := hid hqb
          have HU3 := hid hup3
          have HG3 := hid hg3
          have hsd := hg3.size
          have f2 : wd.cell? ⟨b, off + k * 2 + 1, none⟩ = some (.slice qa r.ports.length qc) := hg3.cell f1 (fun e => by have := Option.some.inj e; simp only at this; omega)
          have r0 : wd.cell? ⟨wa.heap.size, 0, none⟩ = some (.slice pa2 ps.length pc2) := (blk_cell hqb 0).trans rfl
          have r1 : wd.cell? ⟨wa.heap.size, 1, none⟩ = some v2 := (blk_cell hqb 1).trans rfl
          have rf := blk_frozen hqb
          have HBd := hid (show Below wa.heap.size wa wd from HBca.out.trans (gb_low hg3 (Nat.le_refl _) (by omega)))
          have HBdw := hid (show Below w.heap.size w wd from HB.out.trans (HBd.out.mono hwa))
          clear hqb hup3 hg3
          by_cases hltm : 1 ≤ j
          · obtain ⟨t, rfl⟩ : ∃ t, j = t + 1 := ⟨j - 1, by omega⟩
            rw [show (((t + 1 : Nat) : Int) - 1) = (t : Int) by omega]
            obtain ⟨y, hym⟩ : ∃ y, r.ports[t]? = some y := ⟨r.ports[t]'(by omega), by simp⟩
            have HYM := hid hym
            obtain ⟨eb, eo, rfl, heb, c0, c1, c2⟩ := HRQ.out.2 t y hym
            have q0 := cell_to (Sub.show _ _ _ _ _ c0) HBdw.out
            have q1 := cell_to (Sub.show _ _ _ _ _ c1) HBdw.out
            have q2 := cell_to (Sub.show _ _ _ _ _ c2) HBdw.out
            have z5 : (t : Int) < (r.ports.length : Int) := by omega
            have z6 : (0 : Int) ≤ (t : Int) := by omega
            have HVB := hid (show ∀ g, v2.ownBlock = some g → wq.heap.size ≤ g from fun g hg => (HU3.out.lt g hg).1)
            have HVL := hid (show ∀ g, v2.ownBlock = some g → g < wd.heap.size from fun g hg => (HU3.out.lt g hg).2)
            clear hym c0 c1 c2
            go_wp2_with fail
            refine wp_region_held_tail (S := (fun w' => w'.cell? ⟨wa.heap.size, 1, none⟩ = some v2 ∧ w'.cell? ⟨b, off + k * 2 + 1, none⟩ = some (.slice (some ⟨eb, eo, none⟩) r.ports.length qc) ∧ w'.cell? ⟨eb, eo + t * 3, none⟩ = some (.int .i64 y.proto) ∧ w'.cell? ⟨eb, eo + t * 3 + 1, none⟩ = some (.int .i64 y.lo) ∧ w'.cell? ⟨eb, eo + t * 3 + 2, none⟩ = some (.int .i64 y.hi))) 12 (by kernel_rfl) (by kernel_rfl) ?_
            simp only [takes_12, drops_12]
            have hS0 : (fun w' => w'.cell? ⟨wa.heap.size, 1, none⟩ = some v2 ∧ w'.cell? ⟨b, off + k * 2 + 1, none⟩ = some (.slice (some ⟨eb, eo, none⟩) r.ports.length qc) ∧ w'.cell? ⟨eb, eo + t * 3, none⟩ = some (.int .i64 y.proto) ∧ w'.cell? ⟨eb, eo + t * 3 + 1, none⟩ = some (.int .i64 y.lo) ∧ w'.cell? ⟨eb, eo + t * 3 + 2, none⟩ = some (.int .i64 y.hi)) wd.drew := ⟨r1, f2, q0, q1, q2⟩
            refine htake_0 (.pointer (some ⟨wa.heap.size, 1, none⟩)) (by kernel_rfl) (by kernel_rfl) (by kernel_rfl) rfl (fun _ _ _ h => h) (fun w' hSw => by (obtain ⟨s0, s1, s2, s3, s4⟩ := hSw; go_simp)) hS0 ?_
            try simp only [Act.put, List.setIfInBounds_toArray, List.set_cons_zero, List.set_cons_succ]
            refine htake_1 (v2) (by kernel_rfl) (by kernel_rfl) (by kernel_rfl) rfl (fun _ _ _ h => h) (fun w' hSw => by (obtain ⟨s0, s1, s2, s3, s4⟩ := hSw; go_simp)) hS0 ?_
            try simp only [Act.put, List.setIfInBounds_toArray, List.set_cons_zero, List.set_cons_succ]
            refine htake_2 (.slice (some ⟨b, off, none⟩) l.length lc) (by kernel_rfl) (by kernel_rfl) (by kernel_rfl) rfl (fun _ _ _ h => h) (fun w' hSw => by (obtain ⟨s0, s1, s2, s3, s4⟩ := hSw; go_simp)) hS0 ?_
            try simp only [Act.put, List.setIfInBounds_toArray, List.set_cons_zero, List.set_cons_succ]
            refine htake_3 (.int .i64 k) (by kernel_rfl) (by kernel_rfl) (by kernel_rfl) rfl (fun _ _ _ h => h) (fun w' hSw => by (obtain ⟨s0, s1, s2, s3, s4⟩ := hSw; go_simp)) hS0 ?_
            try simp only [Act.put, List.setIfInBounds_toArray, List.set_cons_zero, List.set_cons_succ]
            refine htake_4 (.pointer (some ⟨b, off + k * 2, none⟩)) (by kernel_rfl) (by kernel_rfl) (by kernel_rfl) rfl (fun _ _ _ h => h) (fun w' hSw => by (obtain ⟨s0, s1, s2, s3, s4⟩ := hSw; go_simp)) hS0 ?_
            try simp only [Act.put, List.setIfInBounds_toArray, List.set_cons_zero, List.set_cons_succ]
            refine htake_5 (.pointer (some ⟨b, off + k * 2 + 1, none⟩)) (by kernel_rfl) (by kernel_rfl) (by kernel_rfl) rfl (fun _ _ _ h => h) (fun w' hSw => by (obtain ⟨s0, s1, s2, s3, s4⟩ := hSw; go_simp)) hS0 ?_
            try simp only [Act.put, List.setIfInBounds_toArray, List.set_cons_zero, List.set_cons_succ]
            refine htake_6 (.slice (some ⟨eb, eo, none⟩) r.ports.length qc) (by kernel_rfl) (by kernel_rfl) (by kernel_rfl) rfl (fun _ _ _ h => h) (fun w' hSw => by (obtain ⟨s0, s1, s2, s3, s4⟩ := hSw; go_simp)) hS0 ?_
            try simp only [Act.put, List.setIfInBounds_toArray, List.set_cons_zero, List.set_cons_succ]
            refine htake_7 (.int .i64 t) (by kernel_rfl) (by kernel_rfl) (by kernel_rfl) rfl (fun _ _ _ h => h) (fun w' hSw => by (obtain ⟨s0, s1, s2, s3, s4⟩ := hSw; go_simp)) hS0 ?_
            try simp only [Act.put, List.setIfInBounds_toArray, List.set_cons_zero, List.set_cons_succ]
            refine htake_8 (.pointer (some ⟨eb, eo + t * 3, none⟩)) (by kernel_rfl) (by kernel_rfl) (by kernel_rfl) rfl (fun _ _ _ h => h) (fun w' hSw => by (obtain ⟨s0, s1, s2, s3, s4⟩ := hSw; go_simp)) hS0 ?_
            try simp only [Act.put, List.setIfInBounds_toArray, List.set_cons_zero, List.set_cons_succ]
            refine htake_9 (.agg #[.int .i64 y.proto, .int .i64 y.lo, .int .i64 y.hi]) (by kernel_rfl) (by kernel_rfl) (by kernel_rfl) rfl (fun _ _ _ h => h) (fun w' hSw => by (obtain ⟨s0, s1, s2, s3, s4⟩ := hSw; go_simp)) hS0 ?_
            try simp only [Act.put, List.setIfInBounds_toArray, List.set_cons_zero, List.set_cons_succ]
            refine hone_10 (by kernel_rfl) rfl (fun K hK => ?_)
            go_simp
            have hBA : Below wd.heap.size wd (wd.alloc (.cells #[.int .i64 y.proto, .int .i64 y.lo, .int .i64 y.hi] 109)).drew := ((Below.refl _ wd).alloc (Nat.le_refl _) _).drew
            have HUA := hid (HU3.out.grow NNo.mono hBA)
            have HBA := hid hBA
            refine hK _ _ ⟨cell_past (w := wd) r1, cell_past (w := wd) f2, cell_past (w := wd) q0, cell_past (w := wd) q1, cell_past (w := wd) q2⟩ ?_
            try simp only [Act.put, List.setIfInBounds_toArray, List.set_cons_zero, List.set_cons_succ]
            clear hK hBA
            refine hone_11 (by kernel_rfl) rfl (fun K hK => ?_)
            refine wp_append_at _ (.tmp 51) (.tmp 60) 62 rfl wq.heap.size 109 iq0 _ 3 24 Tryz.underlying62 hiq iqz0 iqz1 iqz2 rfl (by decide) v2 _ _ rfl HUA.out.1 ⟨wd.heap.size, 0, none⟩ 1 1 (encPort y) rfl rfl (cell_new_list wd.drew (encPort y) _) (by intro u hu; simp only [encPort, List.mem_cons, List.not_mem_nil, or_false] at hu; rcases hu with rfl | rfl | rfl <;> rfl) (by unfold maxLen; omega) (by omega) (by show wq.heap.size ≤ (wd.alloc _).heap.size; rw [World.size_alloc]; omega) ?_
            intro v' w6 hown6 hg6 hat6
            obtain ⟨a6, c6, rfl, _, _⟩ := own_slice hown6
            have t6 : w6.heap[wa.heap.size]? = some (.cells #[.slice pa2 ps.length pc2, v2] 64 (0, 0)) := (hg6.block wa.heap.size (by show wa.heap.size < (wd.alloc _).heap.size; rw [World.size_alloc]; omega) (fun e => by have := HVB.out _ e.symm; omega)).trans ((Below.heap_alloc _ _ _ (by omega)).trans HQB.out)
            have HO6 := hid hown6
            have HG6 := hid hg6
            have HA6 := hid hat6
            have t0 : w6.cell? ⟨wa.heap.size, 1, none⟩ = some v2 := (blk_cell t6 1).trans rfl
            have tf := blk_frozen t6
            have HT := hid t6
            have hS6 := hg6.cell (cell_past (w := wd) f2) (fun e => by have := HVB.out _ e.symm; simp only at this; omega)
            have n0 := hg6.cell (cell_past (w := wd) q0) (fun e => by have := HVB.out _ e.symm; simp only at this; omega)
            have n1 := hg6.cell (cell_past (w := wd) q1) (fun e => by have := HVB.out _ e.symm; simp only at this; omega)
            have n2 := hg6.cell (cell_past (w := wd) q2) (fun e => by have := HVB.out _ e.symm; simp only at this; omega)
            clear hown6 hg6 hat6 t6
            refine hK _ _ ⟨t0, hS6, n0, n1, n2⟩ ?_
            refine wpAnyH_done (by kernel_rfl) ?_ _
            show wpList _ _ _ _ _ _
            try simp only [Act.put, List.setIfInBounds_toArray, List.set_cons_zero, List.set_cons_succ]
            clear hK hS0 hS6 n0 n1 n2 q0 q1 q2 f2 r0 r1
            go_wp2
            refine ⟨⟨t, _, qs ++ [y], by omega, rfl, by rw [HQS.out]; exact (rev_step' HYM.out).symm, (set_blk HT.out 1 _).trans rfl, ?_, gb_set (gb_row (gb_below HG3.out HBA.out) HG6.out HVB.out) 1 _⟩, by simp [intOf]⟩
            have g3 := Up.app NNo.mono (m := wd.heap.size) HUA.out hsd (fun g hg => HVL.out g hg) trivial HO6.out HG6.out HA6.out
            exact g3.set NNo.mono ⟨wa.heap.size, 1, none⟩ _ (by show wa.heap.size < wq.heap.size; omega)
          · have hj0 : j = 0 := by omega
            subst hj0
            rw [show (((0 : Nat) : Int) - 1) = -1 from rfl]
            have HMR := hid (show turnR r = ⟨ps, qs⟩ by rw [turnR, HPS.out, HQS.out]; rfl)
            obtain ⟨a3, c3, rfl, hc3, hr3⟩ := upPorts_done' HU3.out (by omega)
            have HR3 := hid hr3
            have HN := hid (show ∀ o, NRule (wd.alloc o).heap.size (hide (wd.alloc o) (mid G w.heap.size W2.heap.size)) ⟨⟨ps, qs⟩, pa2, pc2, a3, c3⟩ from fun o =>
              have hb := (Below.refl wd.heap.size wd).alloc (Nat.le_refl _) o
              ⟨rdPeers.sub ((Sub.hide fun b' hb' hG => ⟨hG, HG3.out.block b' hb' (fun e => by cases e; rcases mid_false.1 hG with h | h <;> omega)⟩).trans (Sub.grow hb)) (Nat.le_trans hsd hb.size) HRP2.out,
               rdPorts.sub ((Sub.hide fun b' hb' hG => ⟨mid_false.2 (.inr ⟨by have := low_false.1 hG; omega, by have := low_false.1 hG; omega⟩), rfl⟩).trans (Sub.grow hb)) hb.size HR3.out⟩)
            have HUD := hid (HU.out.grow NRule.mono HBd.out)
            have HKL := hid (show ∀ g, kv.ownBlock = some g → w.heap.size ≤ g ∧ g < wa.heap.size from fun g hg => HU.out.lt g hg)
            have hdl := HBd.out.size
            have hbz : (xs.length + 1) * 48 ≤ 140737488355328 := by omega
            clear hr3
            go_wp2_with (at_builtin; go_must (refine wpList_append_own_at _ rfl _ _ 57 rfl w.heap.size 64 ir0 _ 2 48 Tryz.underlying57 hir irz0 irz1 irz2 rfl (by decide) _ _ _ rfl (HUD.out.1.alloc (.cells #[.slice pa2 ps.length pc2, .slice a3 qs.length c3] 64)) ⟨wd.heap.size, 0, none⟩ 1 1 (encXRule ⟨turnR r, pa2, pc2, a3, c3⟩) rfl (by rw [HMR.out]; rfl) (by rw [HMR.out]; exact cell_new_list wd (encXRule ⟨⟨ps, qs⟩, pa2, pc2, a3, c3⟩) _) (by rw [HMR.out]; intro u hu; simp only [encXRule, List.mem_cons, List.not_mem_nil, or_false] at hu; rcases hu with rfl | rfl <;> rfl) (by unfold maxLen; omega) hbz (by rw [World.size_alloc]; omega) ?_); intro v' w8 hown8 hg8 hnil8 hat8; have HO8 := hid hown8; have HG8 := hid hg8; have HA8 := hid hat8; clear hown8 hg8 hnil8 hat8)
            have hbz2 : Below wd.heap.size wd (wd.alloc (.cells #[.slice pa2 ps.length pc2, .slice a3 qs.length c3] 64)) := (Below.refl _ wd).alloc (Nat.le_refl _) _
            refine ⟨⟨k, xs ++ [⟨turnR r, pa2, pc2, a3, c3⟩], by omega, rfl, by rw [List.map_append, HXS.out]; exact (rev_step turnR HRK.out).symm, ?_, ?_⟩, by simp [intOf]⟩
            · have g1 := HUD.out.grow NRule.mono hbz2
              have g2 := NRule.mono _ _ _ _ _ (sub_mid (G := G) (n := w.heap.size) (m := W2.heap.size) (v := kv) (w := wd.alloc (.cells #[.slice pa2 ps.length pc2, .slice a3 qs.length c3] 64)) (by omega) (fun g hg => by have := HKL.out g hg; omega)) (Nat.le_refl _) (HN.out (.cells #[.slice pa2 ps.length pc2, .slice a3 qs.length c3] 64))
              exact UpG.app NRule.mono g1 (by rw [HMR.out]; exact g2) HO8.out HG8.out HA8.out
            · exact own_below (HBdw.out.alloc HBdw.out.size _) (by rw [World.size_alloc]; omega) (HUD.out.1.alloc _) HG8.out
    · have hm0 : m = 0 := by omega
      subst hm0
      rw [show (((0 : Nat) : Int) - 1) = -1 from rfl]
      have hm : xs.map (·.d) = turn l := by rw [HXS.out]; rfl
      obtain ⟨a, c, rfl, hc, hr⟩ := upGRules_done HU.out (fun g hg => mid_false.2 (.inr ⟨(HU.out.lt g hg).1, (HU.out.lt g hg).1⟩)) (by omega)
      obtain ⟨R, hR⟩ : ∃ R, R = turn l := ⟨_, rfl⟩
      rw [hm, ← hR] at hc hr ⊢
      have HR := hid hr
      have HRR := hid hR
      clear hr hm hR
      go_wp2
      go_ret
      exact ⟨⟨a, c, by rw [← HRR.out]; rfl, by rw [← HRR.out]; exact hc, by rw [← HRR.out]; exact HR.out⟩, HB.out⟩
end Go.Proofs.YtmkjlhplgcifiaaGreat
