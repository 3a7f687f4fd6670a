/-
  A cluster lent and given back, whatever it is; what is lent reads as what was there.
-/
import Derived.Test.YtmkjlhplgcifiaaM7b
import Derived.Test.YtmkjlhplgcifiaaM7c
import Derived.Test.YtmkjlhplgcifiaaM10
import Derived.Test.YtmkjlhplgcifiaaM10b
import Derived.Test.YtmkjlhplgcifiaaM10c
namespace Go.Proofs.Ytmkjlhplgcifiaa
open Go.ChangeShapes Go.WideShapes Go.ChangeAt Go.RowKit
attribute [local simp] World.cell?_grow
attribute [local go_sem] World.cell?_grow
attribute [local simp] World.cell?_alloc_there
attribute [local go_sem] World.cell?_alloc_there
attribute [local go_sem] eqg_blk std_blk eqg_pod std_pod eqg_sel std_sel eqg_prt std_prt
attribute [local go_sem ↓] eql_blk eql_sel neq_sel eql_prt eql_pod
attribute [local go_sem ↓] met_in1 met_in2 met_re1 met_re2
set_option linter.unusedVariables false
set_option linter.unusedSimpArgs false

theorem lent_any (c : DClu) (pa qa : Option Addr) (pc qc : Nat) (w : World) (hp : rdPods w.heap.size w pa c.pods) (hq : rdPols w.heap.size w qa c.pols) :
    Calls Try.prog 9 #[.agg #[.slice pa c.pods.length pc, .slice qa c.pols.length qc]] w
      fun e w' => ∃ m sa sn sc ta tn tc, e = .returned (.agg #[.slice sa sn sc, .slice ta tn tc]) ∧ w.heap.size ≤ m ∧ m ≤ w'.heap.size ∧ lnPods w.heap.size m w' pa (.slice sa sn sc) c.pods ∧ lnPols m w'.heap.size w w' qa (.slice ta tn tc) c.pols ∧ Below w.heap.size w w' := by
  cases pa with
  | none =>
    have e1 := nil_of hp
    have l1 : c.pods.length = 0 := by rw [e1]; rfl
    cases qa with
    | none =>
      have e2 := nil_of hq
      have l2 : c.pols.length = 0 := by rw [e2]; rfl
      rw [l1, l2]
      exact lent_nn c pc qc w e1 e2
    | some qa =>
      rw [l1]
      exact lent_nq c qa pc qc w e1 hq
  | some pa =>
    cases qa with
    | none =>
      have e2 := nil_of hq
      have l2 : c.pols.length = 0 := by rw [e2]; rfl
      rw [l2]
      exact lent_pn c pa pc qc w hp e2
    | some qa => exact lent_pq c pa qa pc qc w hp hq

theorem back_any (c : DClu) (pa qa : Option Addr) (pc qc : Nat) (sa ta : Option Addr) (sn sc tn tc B lo m hi : Nat) (w : World) (hp : rdPods B w pa c.pods) (hq : rdPols B w qa c.pols) (hB : B ≤ lo) (hlm : lo ≤ m) (hmh : m ≤ hi) (hs : hi ≤ w.heap.size)
    (h1 : lnPods lo m w pa (.slice sa sn sc) c.pods) (h2 : lnPols m hi w w qa (.slice ta tn tc) c.pols) :
    Calls Try.prog 11 #[.agg #[.slice sa sn sc, .slice ta tn tc], .agg #[.slice pa c.pods.length pc, .slice qa c.pols.length qc]] w fun e w' => e = .returned (.bool true) ∧ Only lo hi w w' := by
  rcases h1 with ⟨rfl, e1, e2⟩ | ⟨pa', gp, rfl, g1, g2, e1, g3⟩
  · have l1 : c.pods.length = 0 := by rw [e2]; rfl
    rw [e1, l1]
    rcases h2 with ⟨rfl, e3, e4⟩ | ⟨qa', gq, f, rfl, k1, k2, e3, k3, k4, k5⟩
    · have l2 : c.pols.length = 0 := by rw [e4]; rfl
      rw [e3, l2]
      exact back_nn c pc qc B lo m hi w hB hlm hmh hs
    · rw [e3]
      exact back_nq c qa' gq f pc qc B lo m hi w hB hlm hmh hs hq k1 k2 k3 k4 k5
  · rw [e1]
    rcases h2 with ⟨rfl, e3, e4⟩ | ⟨qa', gq, f, rfl, k1, k2, e3, k3, k4, k5⟩
    · have l2 : c.pols.length = 0 := by rw [e4]; rfl
      rw [e3, l2]
      exact back_pn c pa' gp pc qc B lo m hi w hB hlm hmh hs hp g1 g2 g3
    · rw [e3]
      exact back_pq c pa' gp qa' gq f pc qc B lo m hi w hB hlm hmh hs hp g1 g2 g3 hq k1 k2 k3 k4 k5

theorem lnPols.fwd {lo hi B : Nat} {w0 w1 w : World} {a : Option Addr} {v : Value} {l : List DPol} (hr : rdPols B w0 a l) (hB : Below B w0 w1) (h : lnPols lo hi w0 w a v l) : lnPols lo hi w1 w a v l := by
  rcases h with h | ⟨a', g, f, h1, h2, h3, h4, ⟨h5, h5b, h5c, h5d⟩, h6, h7⟩
  · exact Or.inl h
  · refine Or.inr ⟨a', g, f, h1, h2, h3, h4, ⟨h5, h5b, h5c, fun i hi x hx => ?_⟩, h6, h7⟩
    obtain ⟨m, s, t, g1, g2, c0, c1, c2, c3, g3, g4, g5, g6⟩ := h5d i hi x hx
    obtain ⟨b, off, he, hb, _, _, _, _, ⟨oa, oc, q4, ho⟩, ia, ic, q5, hi'⟩ := hr.2 i x hx
    subst he
    have q4' : w1.cell? ⟨b, off + i * 6 + 4, none⟩ = some (.slice oa x.outs.length oc) := by rw [hB.cell (p := ⟨b, _, none⟩) hb]; exact q4
    have q5' : w1.cell? ⟨b, off + i * 6 + 5, none⟩ = some (.slice ia x.ins.length ic) := by rw [hB.cell (p := ⟨b, _, none⟩) hb]; exact q5
    refine ⟨m, s, t, g1, g2, c0, c1, c2, c3, g3, g4, ?_, ?_⟩
    · rw [subA_eq (n := x.outs.length) (c := oc) (by rwa [Nat.add_assoc] at q4)] at g5
      rw [subA_eq (n := x.outs.length) (c := oc) (by rwa [Nat.add_assoc] at q4')]
      exact lnRules.fwd ho hB g5
    · rw [subA_eq (n := x.ins.length) (c := ic) (by rwa [Nat.add_assoc] at q5)] at g6
      rw [subA_eq (n := x.ins.length) (c := ic) (by rwa [Nat.add_assoc] at q5')]
      exact lnRules.fwd hi' hB g6

theorem lnBlks.rd {lo hi B : Nat} {w : World} {a : Option Addr} {v : Value} {l : List DBlk} (h : lnBlks lo hi w a v l) (hb : l.length * 16 ≤ 140737488351232) (hB : hi ≤ B) : ∃ s c, v = .slice s l.length c ∧ rdBlks B w s l := by
  rcases h with ⟨_, rfl, rfl⟩ | ⟨a', g, _, h2, h3, rfl, h5⟩
  · exact ⟨none, 0, rfl, by simp, fun i x hx => by simp at hx⟩
  · exact ⟨_, _, rfl, hb, fun i x hx => ⟨g, 0, rfl, by omega, by
      have e : 0 + i * 2 = i * 2 := Nat.zero_add _
      rw [e]
      exact ⟨row_cell h5 ((flat_at bCells 2 lens_blk l _ i x hx 0 (by omega)).trans rfl), row_cell h5 ((flat_at bCells 2 lens_blk l _ i x hx 1 (by omega)).trans rfl)⟩⟩⟩
theorem lnPorts.rd {lo hi B : Nat} {w : World} {a : Option Addr} {v : Value} {l : List DPort} (h : lnPorts lo hi w a v l) (hb : l.length * 24 ≤ 140737488351232) (hB : hi ≤ B) : ∃ s c, v = .slice s l.length c ∧ rdPorts B w s l := by
  rcases h with ⟨_, rfl, rfl⟩ | ⟨a', g, _, h2, h3, rfl, h5⟩
  · exact ⟨none, 0, rfl, by simp, fun i x hx => by simp at hx⟩
  · exact ⟨_, _, rfl, hb, fun i x hx => ⟨g, 0, rfl, by omega, by
      have e : 0 + i * 3 = i * 3 := Nat.zero_add _
      rw [e]
      exact ⟨row_cell h5 ((flat_at tCells 3 lens_prt l _ i x hx 0 (by omega)).trans rfl), row_cell h5 ((flat_at tCells 3 lens_prt l _ i x hx 1 (by omega)).trans rfl), row_cell h5 ((flat_at tCells 3 lens_prt l _ i x hx 2 (by omega)).trans rfl)⟩⟩⟩
theorem lnPods.rd {lo hi B : Nat} {w : World} {a : Option Addr} {v : Value} {l : List DPod} (h : lnPods lo hi w a v l) (hb : l.length * 32 ≤ 140737488351232) (hB : hi ≤ B) : ∃ s c, v = .slice s l.length c ∧ l.length ≤ c ∧ rdPods B w s l := by
  rcases h with ⟨_, rfl, rfl⟩ | ⟨a', g, _, h2, h3, rfl, h5⟩
  · exact ⟨none, 0, rfl, Nat.le_refl _, by simp, fun i x hx => by simp at hx⟩
  · exact ⟨_, _, rfl, by omega, hb, fun i x hx => ⟨g, 0, rfl, by omega, by
      have e : 0 + i * 4 = i * 4 := Nat.zero_add _
      rw [e]
      exact ⟨row_cell h5 ((flat_at oCells 4 lens_pod l _ i x hx 0 (by omega)).trans rfl), row_cell h5 ((flat_at oCells 4 lens_pod l _ i x hx 1 (by omega)).trans rfl), row_cell h5 ((flat_at oCells 4 lens_pod l _ i x hx 2 (by omega)).trans rfl), row_cell h5 ((flat_at oCells 4 lens_pod l _ i x hx 3 (by omega)).trans rfl)⟩⟩⟩
theorem lnPeers.rd {lo hi B B0 : Nat} {w0 w w1 : World} {a a1 : Option Addr} {v : Value} {l : List DPeer} (h : lnPeers lo hi w0 w a v l) (hr : rdPeers B0 w1 a1 l) (hB : hi ≤ B) : ∃ s c, v = .slice s l.length c ∧ rdPeers B w s l := by
  rcases h with ⟨_, rfl, rfl⟩ | ⟨a', g, f, _, h2, h3, rfl, ⟨h5, h5b, h5c, h5d⟩, h6, h7⟩
  · exact ⟨none, 0, rfl, by simp, fun i x hx => by simp at hx⟩
  · refine ⟨_, _, rfl, hr.1, fun i x hx => ⟨g, 0, rfl, by omega, ?_⟩⟩
    have hi' : i < l.length := (List.getElem?_eq_some_iff.1 hx).1
    obtain ⟨e0, e1, e2, e3, e4, e5, s, e6, e7⟩ := h5d i hi' x hx
    obtain ⟨_, _, _, _, _, _, _, _, _, _, ea, ec, _, hre⟩ := hr.2 i x hx
    have hm := mono_le h5c (i + 1) l.length (by omega) (Nat.le_refl _)
    obtain ⟨s', c', rfl, hrd⟩ := e7.rd hre.1 (B := B) (by omega)
    have e : 0 + i * 7 = i * 7 := Nat.zero_add _
    rw [e]
    exact ⟨e0, e1, e2, e3, e4, e5, s', c', e6, hrd⟩
theorem lnRules.rd {lo hi B B0 : Nat} {w0 w w1 : World} {a a1 : Option Addr} {v : Value} {l : List DRule} (h : lnRules lo hi w0 w a v l) (hr : rdRules B0 w1 a1 l) (hB : hi ≤ B) : ∃ s c, v = .slice s l.length c ∧ rdRules B w s l := by
  rcases h with ⟨_, rfl, rfl⟩ | ⟨a', g, f, _, h2, h3, rfl, ⟨h5, h5b, h5c, h5d⟩, h6, h7⟩
  · exact ⟨none, 0, rfl, by simp, fun i x hx => by simp at hx⟩
  · refine ⟨_, _, rfl, hr.1, fun i x hx => ⟨g, 0, rfl, by omega, ?_⟩⟩
    have hi' : i < l.length := (List.getElem?_eq_some_iff.1 hx).1
    obtain ⟨m, s, t, m1, m2, e0, e1, e2, e3⟩ := h5d i hi' x hx
    obtain ⟨_, _, _, _, ⟨pa, pc, _, hrp⟩, qa, qc, _, hrq⟩ := hr.2 i x hx
    have hm := mono_le h5c (i + 1) l.length (by omega) (Nat.le_refl _)
    obtain ⟨s', c', rfl, hrd⟩ := e2.rd hrp (B := B) (by omega)
    obtain ⟨t', d', rfl, hrd2⟩ := e3.rd hrq.1 (B := B) (by omega)
    have e : 0 + i * 2 = i * 2 := Nat.zero_add _
    rw [e]
    exact ⟨⟨s', c', e0, hrd⟩, t', d', e1, hrd2⟩
theorem lnPols.rd {lo hi B B0 : Nat} {w0 w w1 : World} {a a1 : Option Addr} {v : Value} {l : List DPol} (h : lnPols lo hi w0 w a v l) (hr : rdPols B0 w1 a1 l) (hB : hi ≤ B) : ∃ s c, v = .slice s l.length c ∧ rdPols B w s l := by
  rcases h with ⟨_, rfl, rfl⟩ | ⟨a', g, f, _, h2, h3, rfl, ⟨h5, h5b, h5c, h5d⟩, h6, h7⟩
  · exact ⟨none, 0, rfl, by simp, fun i x hx => by simp at hx⟩
  · refine ⟨_, _, rfl, hr.1, fun i x hx => ⟨g, 0, rfl, by omega, ?_⟩⟩
    have hi' : i < l.length := (List.getElem?_eq_some_iff.1 hx).1
    obtain ⟨m, s, t, m1, m2, c0, c1, c2, c3, e0, e1, e2, e3⟩ := h5d i hi' x hx
    obtain ⟨_, _, _, _, _, _, _, _, ⟨oa, oc, _, hro⟩, ia, ic, _, hri⟩ := hr.2 i x hx
    have hm := mono_le h5c (i + 1) l.length (by omega) (Nat.le_refl _)
    obtain ⟨s', c', rfl, hrd⟩ := e2.rd hro (B := B) (by omega)
    obtain ⟨t', d', rfl, hrd2⟩ := e3.rd hri (B := B) (by omega)
    have e : 0 + i * 6 = i * 6 := Nat.zero_add _
    rw [e]
    exact ⟨c0, c1, c2, c3, ⟨s', c', e0, hrd⟩, t', d', e1, hrd2⟩
end Go.Proofs.Ytmkjlhplgcifiaa
