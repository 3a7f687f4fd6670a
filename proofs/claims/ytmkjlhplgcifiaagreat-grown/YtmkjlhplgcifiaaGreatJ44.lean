/-
  Reading below a bound, while other blocks are written.
  palisade.Compile: eight tables in a map.
-/
import Derived.Test.YtmkjlhplgcifiaaGreatJ38
import Derived.Test.YtmkjlhplgcifiaaGreatJ43
import Derived.Test.YtmkjlhplgcifiaaGreatJ29
import Derived.Test.YtmkjlhplgcifiaaGreatJ32
import Derived.Deep.RegionHeld3
namespace Go.Proofs.YtmkjlhplgcifiaaGreat
open Go.ChangeShapes Go.WideShapes Go.ChangeAt Go.RowKit
attribute [local simp] World.cell?_grow
attribute [local go_sem] World.cell?_grow
attribute [local simp] World.cell?_alloc_there
attribute [local go_sem] World.cell?_alloc_there
attribute [local go_sem] eqg_blk std_blk eqg_pod std_pod eqg_sel std_sel eqg_prt std_prt
attribute [local go_sem ↓] eql_blk eql_sel neq_sel eql_prt eql_pod
attribute [local go_sem ↓] met_in1 met_in2 met_re1 met_re2
attribute [local go_sem ↓] met_has1 met_has2
attribute [local go_sem ↓] met_bl1 met_bl2
attribute [local go_sem] eqg_row std_row
attribute [local go_sem ↓] neq_row
set_option linter.unusedVariables false
set_option linter.unusedSimpArgs false
/-- every cell of w below a bound is one of w' -/
def SubB (B : Nat) (w w' : World) : Prop := ∀ b o u, b < B → w.cell? ⟨b, o, none⟩ = some u → w'.cell? ⟨b, o, none⟩ = some u
theorem rdBlks.subB {B B' : Nat} {w w' : World} (hs : SubB B w w') (hB : B ≤ B') {a : Option Addr} {l : List DBlk} (h : rdBlks B w a l) : rdBlks B' w' a l :=
  RdSl.ext h hB fun b o x hb ⟨h0, h1⟩ => ⟨hs _ _ _ hb h0, hs _ _ _ hb h1⟩
theorem rdPods.subB {B B' : Nat} {w w' : World} (hs : SubB B w w') (hB : B ≤ B') {a : Option Addr} {l : List DPod} (h : rdPods B w a l) : rdPods B' w' a l :=
  RdSl.ext h hB fun b o x hb ⟨h0, h1, h2, h3⟩ => ⟨hs _ _ _ hb h0, hs _ _ _ hb h1, hs _ _ _ hb h2, hs _ _ _ hb h3⟩
theorem rdPorts.subB {B B' : Nat} {w w' : World} (hs : SubB B w w') (hB : B ≤ B') {a : Option Addr} {l : List DPort} (h : rdPorts B w a l) : rdPorts B' w' a l :=
  RdSl.ext h hB fun b o x hb ⟨h0, h1, h2⟩ => ⟨hs _ _ _ hb h0, hs _ _ _ hb h1, hs _ _ _ hb h2⟩
theorem rdPeers.subB {B B' : Nat} {w w' : World} (hs : SubB B w w') (hB : B ≤ B') {a : Option Addr} {l : List DPeer} (h : rdPeers B w a l) : rdPeers B' w' a l :=
  RdSl.ext h hB fun b o x hb ⟨h0, h1, h2, h3, h4, h5, a, c, h6, h7⟩ => ⟨hs _ _ _ hb h0, hs _ _ _ hb h1, hs _ _ _ hb h2, hs _ _ _ hb h3, hs _ _ _ hb h4, hs _ _ _ hb h5, a, c, hs _ _ _ hb h6, rdBlks.subB hs hB h7⟩
theorem rdRules.subB {B B' : Nat} {w w' : World} (hs : SubB B w w') (hB : B ≤ B') {a : Option Addr} {l : List DRule} (h : rdRules B w a l) : rdRules B' w' a l :=
  RdSl.ext h hB fun b o x hb ⟨⟨a, c, h0, h1⟩, a', c', h2, h3⟩ => ⟨⟨a, c, hs _ _ _ hb h0, rdPeers.subB hs hB h1⟩, a', c', hs _ _ _ hb h2, rdPorts.subB hs hB h3⟩
theorem rdPols.subB {B B' : Nat} {w w' : World} (hs : SubB B w w') (hB : B ≤ B') {a : Option Addr} {l : List DPol} (h : rdPols B w a l) : rdPols B' w' a l :=
  RdSl.ext h hB fun b o x hb ⟨h0, h1, h2, h3, ⟨a, c, h4, h5⟩, a', c', h6, h7⟩ => ⟨hs _ _ _ hb h0, hs _ _ _ hb h1, hs _ _ _ hb h2, hs _ _ _ hb h3, ⟨a, c, hs _ _ _ hb h4, rdRules.subB hs hB h5⟩, a', c', hs _ _ _ hb h6, rdRules.subB hs hB h7⟩
theorem SubB.hide {B : Nat} {w w' : World} {G G' : Nat → Bool} (h : ∀ b, b < B → G b = false → G' b = false ∧ w'.heap[b]? = w.heap[b]?) : SubB B (hide w G) (hide w' G') := fun b o u hb hu => by
  obtain ⟨h1, h2, h3⟩ := hide_out hu
  obtain ⟨k1, k2⟩ := h b hb h1
  rw [hide_cell w' G' b o k1]
  simp only [World.cell?, k2] at h3 ⊢
  exact h3
end Go.Proofs.YtmkjlhplgcifiaaGreat
namespace Go.Proofs.YtmkjlhplgcifiaaGreat
open Go.ChangeShapes Go.WideShapes Go.ChangeAt Go.RowKit
attribute [local simp] World.cell?_grow
attribute [local go_sem] World.cell?_grow
attribute [local simp] World.cell?_alloc_there
attribute [local go_sem] World.cell?_alloc_there
attribute [local go_sem] eqg_blk std_blk eqg_pod std_pod eqg_sel std_sel eqg_prt std_prt
attribute [local go_sem ↓] eql_blk eql_sel neq_sel eql_prt eql_pod
attribute [local go_sem ↓] met_in1 met_in2 met_re1 met_re2
attribute [local go_sem ↓] met_has1 met_has2
attribute [local go_sem ↓] met_bl1 met_bl2
attribute [local go_sem] eqg_row std_row
attribute [local go_sem ↓] neq_row
set_option linter.unusedVariables false
set_option linter.unusedSimpArgs false
def TabV (B : Nat) (w : World) (c : DClu) (p : Int × Int) (v : Value) : Prop := ∃ (a : Addr) (cc n : Nat) (L : List DRow), v = .slice (some a) n cc ∧ n = (L ++ [lastRow]).length ∧ TabRows c p.2 p.1 c.pods L ∧ rdRows B w (some a) (L ++ [lastRow])
/-- tables in memory: where the pointer points to -/
def TabsAt (B : Nat) (w : World) (tb : Nat) (c : DClu) : Prop := ∃ (r : Nat) (vs : List Value), tb < B ∧ r < B ∧ w.cell? ⟨tb, 2, none⟩ = some (.map (some r)) ∧ MapAt w r vs ∧ vs.length = 8 ∧ ∀ (i : Nat) (p : Int × Int) (v : Value), plist[i]? = some p → vs[i]? = some v → TabV B w c p v
theorem make_any (c : DClu) (host way : Int) (hw : way = 1 ∨ way = 2) (pa qa : Option Addr) (pc qc : Nat) (w : World) (hp : rdPods w.heap.size w pa c.pods) (hq : rdPols w.heap.size w qa c.pols) (hc : cluOk c) (hpl : c.pods.length ≤ 8) (hql : c.pols.length ≤ 4) :
    Calls Tryz.prog 61 #[.agg #[.slice pa c.pods.length pc, .slice qa c.pols.length qc], .int .i64 host, .int .i64 way] w
      fun e w' => (∃ (a : Addr) (cc n : Nat), e = .returned (.slice (some a) n cc) ∧ TabV w'.heap.size (hide w' (low w.heap.size)) c (host, way) (.slice (some a) n cc)) ∧ Below w.heap.size w w' := by
  have key : ∀ {w' : World} {a : Option Addr} {l : List DRow}, rdRows w'.heap.size (hide w' (low w.heap.size)) a (l ++ [lastRow]) → ∃ a', a = some a' := fun {w' a l} h => by
    obtain ⟨b, off, e, _⟩ := h.2 l.length lastRow (by simp)
    exact ⟨_, e⟩
  rcases hw with rfl | rfl
  · refine (make_out c host pa qa pc qc w hp hq hc hpl hql).mono ?_
    rintro e w' ⟨⟨a, cc, L, rfl, hT, hr⟩, hb⟩
    obtain ⟨a', rfl⟩ := key hr
    exact ⟨⟨a', cc, _, rfl, a', cc, _, L, rfl, rfl, hT, hr⟩, hb⟩
  · refine (make_in c host pa qa pc qc w hp hq hc hpl hql).mono ?_
    rintro e w' ⟨⟨a, cc, L, rfl, hT, hr⟩, hb⟩
    obtain ⟨a', rfl⟩ := key hr
    exact ⟨⟨a', cc, _, rfl, a', cc, _, L, rfl, rfl, hT, hr⟩, hb⟩
theorem TabV.sub {B B' : Nat} {w w' : World} {c : DClu} {p : Int × Int} {v : Value} (h : TabV B w c p v) (hw : Sub w w') (hB : B ≤ B') : TabV B' w' c p v := by
  obtain ⟨a, cc, n, L, h1, h2, h3, h4⟩ := h
  exact ⟨a, cc, n, L, h1, h2, h3, rdRows.sub hw hB h4⟩
/-- every cell and every map of w is one of w' -/
def BSub (w w' : World) : Prop := Sub w w' ∧ ∀ (b : Nat) (es : Array MapEntry) (cl : Nat), w.heap[b]? = some (Obj.map es cl) → w'.heap[b]? = some (Obj.map es cl)
theorem BSub.show (w : World) (G : Nat → Bool) : BSub (Go.Proofs.YtmkjlhplgcifiaaGreat.hide w G) w := by
  refine ⟨Sub.show w G, fun b es cl hb => ?_⟩
  cases hG : G b
  · rw [← hide_block w G b hG]; exact hb
  · simp only [Go.Proofs.YtmkjlhplgcifiaaGreat.hide, Array.getElem?_mapIdx, hG] at hb
    cases hw : w.heap[b]? <;> rw [hw] at hb <;> simp at hb
/-- what the three cells of tables hold: the cluster, and the rows -/
def TabC (B : Nat) (w : World) (u0 u1 u2 : Value) (c : DClu) : Prop :=
  ∃ (r : Nat) (vs : List Value) (pa qa : Option Addr) (pc qc : Nat), u0 = .slice pa c.pods.length pc ∧ u1 = .slice qa c.pols.length qc ∧ u2 = .map (some r) ∧ r < B ∧ c.pods.length ≤ pc ∧ c.pols.length ≤ qc ∧ rdPods B w pa c.pods ∧ rdPols B w qa c.pols ∧
    MapAt w r vs ∧ vs.length = 8 ∧ ∀ (i : Nat) (p : Int × Int) (v : Value), plist[i]? = some p → vs[i]? = some v → TabV B w c p v
theorem TabC.sub {B B' : Nat} {w w' : World} {u0 u1 u2 : Value} {c : DClu} (h : TabC B w u0 u1 u2 c) (hs : BSub w w') (hB : B ≤ B') : TabC B' w' u0 u1 u2 c := by
  obtain ⟨r, vs, pa, qa, pc, qc, h1, h2, h3, h4, h5, h6, h7, h8, h9, h10, h11⟩ := h
  exact ⟨r, vs, pa, qa, pc, qc, h1, h2, h3, by omega, h5, h6, rdPods.sub hs.1 hB h7, rdPols.sub hs.1 hB h8, hs.2 _ _ _ h9, h10, fun i p v hp hv => (h11 i p v hp hv).sub hs.1 hB⟩
theorem TabC.at {w : World} {G : Nat → Bool} {tb : Nat} {t : TypeId} {u0 u1 u2 : Value} {c : DClu} (h : TabC w.heap.size (hide w G) u0 u1 u2 c) (ht : w.heap[tb]? = some (.cells #[u0, u1, u2] t (0, 0))) : TabsAt w.heap.size w tb c := by
  obtain ⟨r, vs, pa, qa, pc, qc, h1, h2, h3, h4, h5, h6, h7, h8, h9, h10, h11⟩ := h.sub (BSub.show w G) (Nat.le_refl _)
  exact ⟨r, vs, (Array.getElem?_eq_some_iff.1 ht).1, h4, by rw [blk_cell ht, h3]; rfl, h9, h10, h11⟩
theorem cell_keep {W W' : World} {r : Nat} {es : Array MapEntry} {cl : Nat} (hg : W.grownBy W' (some r)) (hm : W.heap[r]? = some (.map es cl)) {b o : Nat} {u : Value} (h : W.cell? ⟨b, o, none⟩ = some u) : W'.cell? ⟨b, o, none⟩ = some u :=
  hg.cell h (fun e => by
    cases e
    simp [World.cell?, hm] at h)
theorem put_grown (W : World) (r : Nat) (o : Obj) : W.grownBy { W with heap := W.heap.setIfInBounds r o } (some r) :=
  ⟨rfl, rfl, rfl, by simp, fun k hk hne => by simp only; rw [Array.getElem?_setIfInBounds_ne (fun e => hne (by rw [e]))]⟩
theorem ents_push : ∀ (ps : List (Int × Int)) (vs : List Value) (n : Nat) (p : Int × Int) (v : Value), ps[vs.length]? = some p → ents ps (vs ++ [v]) n = ents ps vs n ++ [⟨plKey p.1 p.2, v, n + vs.length⟩]
  | [], [], _, _, _, h => by simp at h
  | q :: ps, [], n, p, v, h => by simp at h; subst h; cases ps <;> simp [ents]
  | [], _ :: _, _, _, _, h => by simp at h
  | q :: ps, u :: vs, n, p, v, h => by
    simp only [List.cons_append, ents, List.length_cons]
    rw [ents_push ps vs (n + 1) p v (by simpa using h), Nat.add_assoc, Nat.add_comm 1]
theorem seek_none : ∀ (ps : List (Int × Int)) (vs : List Value) (i : Nat) (h y : Int), (∀ j p, j < vs.length → ps[j]? = some p → ¬ (h = p.1 ∧ y = p.2)) → seek h y ps vs i = none
  | [], _, _, _, _, _ => by simp [seek]
  | _ :: _, [], _, _, _, _ => by simp [seek]
  | p :: ps, v :: vs, i, h, y, hh => by
    rw [seek, if_neg (by have := hh 0 p (by simp) rfl; simpa using this)]
    exact seek_none ps vs (i + 1) h y fun j q hj hq => hh (j + 1) q (by simpa using hj) (by simpa using hq)
theorem plist_ne : ∀ (i : Fin 8) (j : Fin 8), j.val < i.val → ¬ ((plist[i.val]?.getD (0, 0)).1 = (plist[j.val]?.getD (0, 0)).1 ∧ (plist[i.val]?.getD (0, 0)).2 = (plist[j.val]?.getD (0, 0)).2) := by decide
theorem plist_way : ∀ i : Fin 8, (plist[i.val]?.getD (0, 0)).2 = 1 ∨ (plist[i.val]?.getD (0, 0)).2 = 2 := by decide
end Go.Proofs.YtmkjlhplgcifiaaGreat
