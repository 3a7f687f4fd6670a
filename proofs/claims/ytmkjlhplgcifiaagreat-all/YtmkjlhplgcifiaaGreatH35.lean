/-
  Rules lent.
-/
import Derived.Test.YtmkjlhplgcifiaaGreatH34
namespace Go.Proofs.YtmkjlhplgcifiaaGreat
open Go.ChangeShapes Go.WideShapes Go.ChangeAt Go.RowKit
set_option linter.unusedVariables false
set_option linter.unusedSimpArgs false
attribute [local simp] World.cell?_grow World.cell?_alloc_there
attribute [local go_sem] World.cell?_grow World.cell?_alloc_there eqg_blk std_blk eqg_pod std_pod eqg_sel std_sel eqg_prt std_prt
attribute [local go_sem ↓] eql_blk eql_sel neq_sel eql_prt eql_pod met_in1 met_in2 met_re1 met_re2
theorem LnL.lt {sz n : Nat} {E : World → Nat → Nat → Nat → Prop} {w : World} {g : Nat} {f : Nat → Nat} {k : Nat} (h : LnL sz n E w g f k) (hf : f k = w.heap.size) : g < w.heap.size := by
  have := h.2.1
  have := mono_le h.2.2.1 0 k (Nat.zero_le _) (Nat.le_refl _)
  omega
theorem LnL.put {sz n : Nat} {E : World → Nat → Nat → Nat → Prop} {wr w1 : World} {g : Nat} {f : Nat → Nat} {k : Nat} {vs : List Value} (hE : Stab sz g E) (h : LnL sz n E wr g f k) (hf : f k = wr.heap.size) (hb : Below wr.heap.size wr w1) (hv : vs.length = sz) (hk : k < n)
    (hn : own w1 g ((n + 1) * sz) → E (sets w1 g (k * sz) vs) wr.heap.size (sets w1 g (k * sz) vs).heap.size k) : ∃ f', LnL sz n E (sets w1 g (k * sz) vs) g f' (k + 1) ∧ f' (k + 1) = (sets w1 g (k * sz) vs).heap.size := by
  have hg := h.lt hf
  have ho : own w1 g ((n + 1) * sz) := own_heap h.1 (hb.block g hg)
  refine LnL.step hE h hf (sets_own _ _ _ _ _ ho) (fun o ho' => ?_) (fun j hj hn' => ?_) ?_ (hn ho)
  · rw [sets_before _ _ _ _ _ ho', hb.cell (p := ⟨g, o, none⟩) hg]
  · rw [sets_block _ _ _ _ _ hn', hb.block j hj]
  · rw [sets_size]; exact hb.size
theorem LnL.tail {sz n : Nat} {E : World → Nat → Nat → Nat → Prop} {w : World} {g : Nat} {f : Nat → Nat} (hE : Stab sz g E) (h : LnL sz n E w g f n) (o : Nat) (ho : n * sz ≤ o) (u : Value) : LnL sz n E (w.setCell ⟨g, o, none⟩ u) g f n := by
  obtain ⟨h1, h2, h3, h4⟩ := h
  have hm := mono_le h3
  refine ⟨own_set h1 _ _, h2, h3, fun i hi => hE w _ _ _ i (fun p h5 h6 => ?_) (fun j h5 h6 => ?_) (h4 i hi)⟩
  · have : (i + 1) * sz ≤ n * sz := Nat.mul_le_mul_right _ (by omega)
    exact World.cell?_setCell_other _ _ _ _ (fun h => by cases h; omega)
  · exact Below.heap_setCell _ _ _ _ (by have := hm 0 i (by omega) (by omega); show j ≠ g; omega)
theorem LnL.more {sz n : Nat} {E : World → Nat → Nat → Nat → Prop} {w w2 : World} {g : Nat} {f : Nat → Nat} {k : Nat} (hE : Stab sz g E) (h : LnL sz n E w g f k) (hf : f k = w.heap.size) (hb : Below w.heap.size w w2) : LnL sz n E w2 g f k :=
  h.to hE (hb.block g (h.lt hf)) fun j _ h2 => hb.block j (by omega)
theorem lnPeers.heap {lo hi : Nat} {w0 w w' : World} {a : Option Addr} {v : Value} {l : List DPeer} (h : lnPeers lo hi w0 w a v l) (hb : ∀ j, lo ≤ j → j < hi → w'.heap[j]? = w.heap[j]?) : lnPeers lo hi w0 w' a v l := by
  rcases h with h | ⟨a', g, f, h1, h2, h3, h4, h5, h6, h7⟩
  · exact Or.inl h
  · have hg := hb g h2 h3
    exact Or.inr ⟨a', g, f, h1, h2, h3, h4, LnL.to (eLnPeer.stab _ _ _ _) h5 hg (fun j h8 h9 => hb j (by omega) (by omega)), h6, by rw [cell_heap hg]; exact h7⟩
theorem subA_below {w w1 : World} {B b off o : Nat} (hB : Below B w w1) (hb : b < B) : subA w1 (some ⟨b, off, none⟩) o = subA w (some ⟨b, off, none⟩) o := by
  simp only [subA, hB.cell (p := ⟨b, off + o, none⟩) hb]
theorem lnPeers.base {lo hi B : Nat} {w0 w1 w : World} {a : Option Addr} {v : Value} {l : List DPeer} (hr : rdPeers B w0 a l) (hB : Below B w0 w1) (h : lnPeers lo hi w1 w a v l) : lnPeers lo hi w0 w a v l := by
  rcases h with h | ⟨a', g, f, h1, h2, h3, h4, ⟨h5, h5b, h5c, h5d⟩, h6, h7⟩
  · exact Or.inl h
  · refine Or.inr ⟨a', g, f, h1, h2, h3, h4, ⟨h5, h5b, h5c, fun i hi x hx => ?_⟩, h6, h7⟩
    have := h5d i hi x hx
    obtain ⟨b, off, he, hb, _⟩ := hr.2 i x hx
    subst he
    rw [subA_below hB hb] at this
    exact this
def eLnRule (w0 : World) (a : Option Addr) (l : List DRule) (g : Nat) (w : World) (lo hi i : Nat) : Prop :=
  ∀ x, l[i]? = some x → ∃ m s t, lo ≤ m ∧ m ≤ hi ∧ w.cell? ⟨g, i * 2, none⟩ = some s ∧ w.cell? ⟨g, i * 2 + 1, none⟩ = some t ∧ lnPeers lo m w0 w (subA w0 a (i * 2)) s x.peers ∧ lnPorts m hi w (subA w0 a (i * 2 + 1)) t x.ports
theorem eLnRule.stab (w0 : World) (a : Option Addr) (l : List DRule) (g : Nat) : Stab 2 g (eLnRule w0 a l g) := by
  intro w w' lo hi i hc hb h x hx
  obtain ⟨m, s, t, h1, h2, h3, h4, h5, h6⟩ := h x hx
  refine ⟨m, s, t, h1, h2, ?_, ?_, h5.heap fun j h7 h8 => hb j h7 (by omega), h6.heap fun j h7 h8 => hb j (by omega) h8⟩
  · rw [hc _ (by omega) (by omega)]; exact h3
  · rw [hc _ (by omega) (by omega)]; exact h4
def lnRules (lo hi : Nat) (w0 w : World) (a : Option Addr) (v : Value) (l : List DRule) : Prop :=
  (a = none ∧ v = .slice none 0 0 ∧ l = []) ∨ ∃ a' g f, a = some a' ∧ lo ≤ g ∧ g < hi ∧ v = .slice (some ⟨g, 0, none⟩) l.length (l.length + 1) ∧ LnL 2 l.length (eLnRule w0 a l g) w g f l.length ∧ f l.length ≤ hi ∧ w.cell? ⟨g, l.length * 2, none⟩ = some (.slice none 0 0) ∧ ∃ sa sc, w.cell? ⟨g, l.length * 2 + 1, none⟩ = some (.slice sa 1 sc)
theorem lnRules.sl {lo hi : Nat} {w0 w : World} {a : Option Addr} {v : Value} {l : List DRule} (h : lnRules lo hi w0 w a v l) : ∃ s n c, v = .slice s n c := by
  rcases h with ⟨_, rfl, _⟩ | ⟨a', g, f, _, _, _, rfl, _⟩
  · exact ⟨_, _, _, rfl⟩
  · exact ⟨_, _, _, rfl⟩
theorem und_rule : Tryz.prog.underlying 57 = some (.slice 64) := Tryz.underlying57
theorem inf_rule : ∃ i, Tryz.prog.info? 64 = some i ∧ i.zero = some (.agg #[.slice none 0 0, .slice none 0 0]) ∧ i.size = 2 ∧ i.bytes = 48 := by
  have h0 : (Tryz.prog.info? 64).isSome = true := by kernel_rfl
  have h1 : (Tryz.prog.info? 64).map (·.zero) = some (some (.agg #[.slice none 0 0, .slice none 0 0])) := by kernel_rfl
  have h2 : (Tryz.prog.info? 64).map (·.bytes) = some 48 := by kernel_rfl
  have h3 : (Tryz.prog.info? 64).map (·.size) = some 2 := by kernel_rfl
  obtain ⟨i, hi⟩ := Option.isSome_iff_exists.1 h0
  rw [hi] at h1 h2 h3
  exact ⟨i, hi, by simpa using h1, by simpa using h3, by simpa using h2⟩
theorem make_rule (n : Nat) (w : World) (h : n * 48 ≤ 140737488351232) : ∃ Z : Array Value, Z.size = (n + 1) * 2 ∧ (∀ o, o < (n + 1) * 2 → Z[o]? = some (.slice none 0 0)) ∧
    (Instr.makeSlice 57 (.int .i64 ((n : Int) + 1)) (.int .i64 ((n : Int) + 1))).run Tryz.prog w = .ok (.slice (some ⟨w.heap.size, 0, none⟩) (n + 1) (n + 1)) (w.alloc (.cells Z 64)) := by
  obtain ⟨i, h1, h2, h3, h4⟩ := inf_rule
  have := run_make (P := Tryz.prog) w 57 64 i _ und_rule h1 h2 .i64 .i64 ((n : Int) + 1) ((n : Int) + 1) (by omega) (by omega) (by rw [h4]; omega) (by omega)
  have e : ((n : Int) + 1).toNat = n + 1 := by omega
  rw [h3, e] at this
  refine ⟨_, size_madeCells _ _, fun o ho => ?_, this⟩
  have : o % 2 = 0 ∨ o % 2 = 1 := by omega
  rcases this with h | h <;> simp [madeCells, Value.cells, ho, h]
set_option maxRecDepth 100000 in
set_option maxHeartbeats 4000000 in
theorem lentRules_some (l : List DRule) (a : Addr) (cap : Nat) (w : World) (hr : rdRules w.heap.size w (some a) l) :
    Calls Tryz.prog 114 #[.slice (some a) l.length cap] w fun e w' => ∃ v, e = .returned v ∧ lnRules w.heap.size w'.heap.size w w' (some a) v l ∧ Below w.heap.size w w' := by
  have HR := hid hr
  have hlen := hr.1
  clear hr
  obtain ⟨Z, hZ, hZ0, hmk⟩ := make_rule l.length w hlen
  have HO := hid (own_of (alloc_heap w (.cells Z 64)) hZ)
  have HZ := hid (show (w.alloc (.cells Z 64)).cell? ⟨w.heap.size, l.length * 2, none⟩ = some (.slice none 0 0) from by
    simp only [World.cell?, alloc_heap]
    exact hZ0 _ (by omega))
  have hq : ∀ w, (binOp .eql 57 (.slice (some a) l.length cap) (.slice none 0 0)).run Tryz.prog w = .ok (.bool false) w := fun w => Lib.run_eql_slice_nil w 57 64 _ _ _ _ _ und_rule
  clear hZ hZ0
  go_enter Tryz.func114, Tryz.ntmps114
  go_wp2
  go_loopw [4] (fun i wr => ∃ (k : Nat) (f : Nat → Nat), k ≤ l.length ∧ i = .int .i64 k ∧ LnL 2 l.length (eLnRule w (some a) l w.heap.size) wr w.heap.size f k ∧ f k = wr.heap.size ∧ wr.cell? ⟨w.heap.size, l.length * 2, none⟩ = some (.slice none 0 0) ∧ Below w.heap.size w wr) (fun i _ => l.length - (intOf i).toNat)
  case atStart => exact ⟨0, fun _ => w.heap.size + 1, Nat.zero_le _, rfl, ⟨HO.out, Nat.lt_succ_self _, fun i hi => absurd hi (Nat.not_lt_zero _), fun i hi => absurd hi (Nat.not_lt_zero _)⟩, by simp, HZ.out, Ext.alloc (Below.refl _ _) _⟩
  case round =>
    obtain ⟨k, f, hk, rfl, hL, hf, hz, hbw⟩ := hrel
    have HL := hid hL
    have HF := hid hf
    have HZ := hid hz
    have hgs := hL.lt hf
    by_cases hlt : k < l.length
    · obtain ⟨x, hxk⟩ : ∃ x, l[k]? = some x := ⟨l[k], by simp [hlt]⟩
      have HX := hid hxk
      clear hxk
      obtain ⟨b, off, he, hb, ⟨pa, pc, c0, hrp⟩, qa, qc, c1, hrq⟩ := HR.out.2 k x HX.out
      cases he
      have HP := hid hrp
      have HQ := hid hrq
      have HC0 := hid c0
      have HC1 := hid c1
      have d0 := cell_to c0 hbw
      have d1 := cell_to c1 hbw
      clear hL hf hz c0 c1 hrp hrq
      go_wp2_with fail
      refine (lentPeers_any x.peers pa pc wr (rdPeers.to HP.out hbw)).mono ?_
      rintro e w1 ⟨v1, rfl, hln1, hb1⟩
      obtain ⟨va, vn, vc, hve⟩ := hln1.sl
      subst hve
      have HN1 := hid (lnPeers.base HP.out hbw hln1)
      have HB1 := hid hb1
      have d1' := cell_to d1 hb1
      clear hln1 d0 d1
      go_wp2_with fail
      refine (lentPorts_any x.ports qa qc w.heap.size w1 (rdPorts.ext (hbw.trans (hb1.mono (by omega))) (Nat.le_refl _) HQ.out)).mono ?_
      rintro e w2 ⟨v2, rfl, hln2, hb2⟩
      obtain ⟨ta, tn, tc, hte⟩ := hln2.sl
      subst hte
      have HN2 := hid hln2
      have HB2 := hid (Ext.trans hb1 hb2)
      have HO2 := hid (own_heap HL.out.1 ((Ext.trans hb1 hb2).block _ hgs))
      have hfr := HO2.out.2
      obtain ⟨z0, e0⟩ := HO2.out.1 (k * 2) (by omega)
      obtain ⟨z1, e1⟩ := HO2.out.1 (k * 2 + 1) (by omega)
      have HST := hid (LnL.put (vs := [.slice va vn vc, .slice ta tn tc]) (eLnRule.stab _ _ _ _) HL.out HF.out HB2.out rfl hlt (fun ho => by
        intro y hy
        rw [HX.out] at hy
        cases hy
        have hsz : (sets w2 w.heap.size (k * 2) [.slice va vn vc, .slice ta tn tc]).heap.size = w2.heap.size := sets_size _ _ _ _
        refine ⟨w1.heap.size, .slice va vn vc, .slice ta tn tc, HB1.out.size, by rw [hsz]; exact hb2.size, ?_, ?_, ?_, ?_⟩
        · exact sets_at _ _ _ _ _ 0 _ rfl (by simp; omega) ho
        · exact sets_at _ _ _ _ _ 1 _ rfl (by simp; omega) ho
        · rw [subA_eq (n := x.peers.length) (c := pc) (by have := HC0.out; exact this)]
          exact HN1.out.heap fun j h1 h2 => by rw [sets_block _ _ _ _ _ (by omega), hb2.block j (by omega)]
        · rw [subA_eq (n := x.ports.length) (c := qc) (by have := HC1.out; rwa [Nat.add_assoc] at this), hsz]
          exact HN2.out.heap fun j h1 h2 => sets_block _ _ _ _ _ (by have := HB1.out.size; omega)))
      have HZ2 := hid (show (sets w2 w.heap.size (k * 2) [.slice va vn vc, .slice ta tn tc]).cell? ⟨w.heap.size, l.length * 2, none⟩ = some (.slice none 0 0) from by
        rw [sets_behind _ _ _ _ _ (by simp; omega), HB2.out.cell (p := ⟨w.heap.size, _, none⟩) hgs]; exact HZ.out)
      have HBF := hid (show Below w.heap.size w (sets w2 w.heap.size (k * 2) [.slice va vn vc, .slice ta tn tc]) from (Ext.trans hbw HB2.out).trans ((sets_only _ _ _ _).below (Nat.le_refl _) (by have := HB2.out.size; omega)))
      clear hln2 hb1 hb2
      go_wp2
      obtain ⟨f', hf1, hf2⟩ := HST.out
      exact ⟨⟨k + 1, f', by omega, by go_num, hf1, hf2, HZ2.out, HBF.out⟩, by simp [intOf]; omega⟩
    · have e : k = l.length := by omega
      subst e
      have hfr := hL.1.2
      obtain ⟨z1, e1⟩ := hL.1.1 (l.length * 2 + 1) (by omega)
      clear hL hf hz
      have HT := hid (LnL.tail (eLnRule.stab _ _ _ _) HL.out (l.length * 2 + 1) (by omega) (.slice (some ⟨wr.heap.size, 0, none⟩) 1 1))
      have hsz : (wr.setCell ⟨w.heap.size, l.length * 2 + 1, none⟩ (.slice (some ⟨wr.heap.size, 0, none⟩) 1 1)).heap.size = wr.heap.size := by simp [World.setCell]
      have HSZ := hid hsz
      clear hsz
      go_wp2
      go_ret
      refine ⟨_, rfl, Or.inr ⟨a, w.heap.size, f, rfl, Nat.le_refl _, ?_, rfl, LnL.more (eLnRule.stab _ _ _ _) HT.out (by rw [HSZ.out]; exact HF.out) (Ext.alloc (Below.refl _ _) _), ?_, ?_, some ⟨wr.heap.size, 0, none⟩, 1, ?_⟩, (hbw.setCell (Nat.le_refl _) _).alloc (by rw [HSZ.out]; omega) _⟩
      · rw [World.size_alloc, HSZ.out]; omega
      · rw [World.size_alloc, HSZ.out, HF.out]; omega
      · exact cell_past (by rw [World.cell?_setCell_other _ _ _ _ (fun h => by simp at h)]; exact HZ.out)
      · exact cell_past (World.cell?_setCell_same wr _ _ e1)
theorem lentRules_nil (cap : Nat) (w : World) :
    Calls Tryz.prog 114 #[.slice none 0 cap] w fun e w' => e = .returned (.slice none 0 0) ∧ w' = w := by
  have hq : ∀ w, (binOp .eql 57 (.slice none 0 cap) (.slice none 0 0)).run Tryz.prog w = .ok (.bool true) w := fun w => Lib.run_eql_slice_nil w 57 64 _ _ _ _ _ und_rule
  go_enter Tryz.func114, Tryz.ntmps114
  go_wp2
  go_ret
  exact ⟨rfl, rfl⟩
theorem lentRules_any (l : List DRule) (a : Option Addr) (cap : Nat) (w : World) (hr : rdRules w.heap.size w a l) :
    Calls Tryz.prog 114 #[.slice a l.length cap] w fun e w' => ∃ v, e = .returned v ∧ lnRules w.heap.size w'.heap.size w w' a v l ∧ Below w.heap.size w w' := by
  cases a with
  | none =>
    have e := nil_of hr
    subst e
    refine (lentRules_nil cap w).mono ?_
    rintro e w' ⟨rfl, rfl⟩
    exact ⟨_, rfl, Or.inl ⟨rfl, rfl, rfl⟩, Below.refl _ _⟩
  | some a => exact lentRules_some l a cap w hr
theorem lnRules.heap {lo hi : Nat} {w0 w w' : World} {a : Option Addr} {v : Value} {l : List DRule} (h : lnRules lo hi w0 w a v l) (hb : ∀ j, lo ≤ j → j < hi → w'.heap[j]? = w.heap[j]?) : lnRules lo hi w0 w' a v l := by
  rcases h with h | ⟨a', g, f, h1, h2, h3, h4, h5, h6, h7, sa, sc, h8⟩
  · exact Or.inl h
  · have hg := hb g h2 h3
    exact Or.inr ⟨a', g, f, h1, h2, h3, h4, LnL.to (eLnRule.stab _ _ _ _) h5 hg (fun j h8 h9 => hb j (by omega) (by omega)), h6, by rw [cell_heap hg]; exact h7, sa, sc, by rw [cell_heap hg]; exact h8⟩
theorem lnRules.base {lo hi B : Nat} {w0 w1 w : World} {a : Option Addr} {v : Value} {l : List DRule} (hr : rdRules B w0 a l) (hB : Below B w0 w1) (h : lnRules lo hi w1 w a v l) : lnRules lo hi w0 w a v l := by
  rcases h with h | ⟨a', g, f, h1, h2, h3, h4, ⟨h5, h5b, h5c, h5d⟩, h6, h7⟩
  · exact Or.inl h
  · refine Or.inr ⟨a', g, f, h1, h2, h3, h4, ⟨h5, h5b, h5c, fun i hi x hx => ?_⟩, h6, h7⟩
    obtain ⟨m, s, t, g1, g2, g3, g4, g5, g6⟩ := h5d i hi x hx
    obtain ⟨b, off, he, hb, ⟨pa, pc, c0, hp⟩, qa, qc, c1, hq⟩ := hr.2 i x hx
    subst he
    rw [subA_below hB hb] at g5 g6
    refine ⟨m, s, t, g1, g2, g3, g4, ?_, g6⟩
    rw [subA_eq c0] at g5 ⊢
    exact lnPeers.base hp hB g5
theorem lnRules.mono {lo hi lo' hi' : Nat} {w0 w : World} {a : Option Addr} {v : Value} {l : List DRule} (h : lnRules lo hi w0 w a v l) (h1 : lo' ≤ lo) (h2 : hi ≤ hi') : lnRules lo' hi' w0 w a v l := by
  rcases h with h | ⟨a', g, f, g1, g2, g3, g4, g5, g6, g7⟩
  · exact Or.inl h
  · exact Or.inr ⟨a', g, f, g1, by omega, by omega, g4, g5, by omega, g7⟩
theorem fz1 (w : World) (c : Array Value) (t : TypeId) (B : Obj) : ∀ o, ((w.alloc (.cells c t)).alloc B).frozen? ⟨w.heap.size, o, none⟩ = false := fun o => by
  have h : ((w.alloc (.cells c t)).alloc B).heap[w.heap.size]? = some (.cells c t) := by
    rw [Below.heap_alloc _ _ _ (by rw [World.size_alloc]; omega)]; exact alloc_heap _ _
  simp only [World.frozen?, h]
  simp
theorem fz2 (w : World) (A : Obj) (c : Array Value) (t : TypeId) : ∀ o, ((w.alloc A).alloc (.cells c t)).frozen? ⟨w.heap.size + 1, o, none⟩ = false := fun o => by
  have h := alloc_heap (w.alloc A) (.cells c t)
  rw [World.size_alloc] at h
  simp only [World.frozen?, h]
  simp
set_option maxRecDepth 100000 in
set_option maxHeartbeats 4000000 in
theorem lentPolicy_any (p : DPol) (oa ia : Option Addr) (oc ic : Nat) (w : World) (ho : rdRules w.heap.size w oa p.outs) (hi : rdRules w.heap.size w ia p.ins) :
    Calls Tryz.prog 86 #[.agg #[.int .i64 p.space, .int .i64 p.need, .int .i64 p.ban, .int .i64 p.ways, .slice oa p.outs.length oc, .slice ia p.ins.length ic]] w
      fun e w' => ∃ m sa sn sc ta tn tc, e = .returned (.agg #[.int .i64 p.space, .int .i64 p.need, .int .i64 p.ban, .int .i64 p.ways, .slice sa sn sc, .slice ta tn tc]) ∧ w.heap.size ≤ m ∧ m ≤ w'.heap.size ∧
        lnRules w.heap.size m w w' oa (.slice sa sn sc) p.outs ∧ lnRules m w'.heap.size w w' ia (.slice ta tn tc) p.ins ∧ Below w.heap.size w w' := by
  have HO := hid ho
  have HI := hid hi
  clear ho hi
  go_enter Tryz.func86, Tryz.ntmps86
  go_wp2_with fail
  generalize hW : (w.alloc (Obj.cells #[.int .i64 p.space, .int .i64 p.need, .int .i64 p.ban, .int .i64 p.ways, .slice oa p.outs.length oc, .slice ia p.ins.length ic] 59)).alloc (Obj.cells #[.int .i64 0, .int .i64 0, .int .i64 0, .int .i64 0, .slice none 0 0, .slice none 0 0] 59) = W
  have hsW : W.heap.size = w.heap.size + 2 := by rw [← hW]; simp
  have q0 : W.cell? ⟨w.heap.size, 0, none⟩ = some (.int .i64 p.space) := by rw [← hW]; simp [go_sem]
  have q1 : W.cell? ⟨w.heap.size, 1, none⟩ = some (.int .i64 p.need) := by rw [← hW]; simp [go_sem]
  have q2 : W.cell? ⟨w.heap.size, 2, none⟩ = some (.int .i64 p.ban) := by rw [← hW]; simp [go_sem]
  have q3 : W.cell? ⟨w.heap.size, 3, none⟩ = some (.int .i64 p.ways) := by rw [← hW]; simp [go_sem]
  have q4 : W.cell? ⟨w.heap.size, 4, none⟩ = some (.slice oa p.outs.length oc) := by rw [← hW]; simp [go_sem]
  have q5 : W.cell? ⟨w.heap.size, 5, none⟩ = some (.slice ia p.ins.length ic) := by rw [← hW]; simp [go_sem]
  have r0 : W.cell? ⟨w.heap.size + 1, 0, none⟩ = some (.int .i64 0) := by rw [← hW]; simp [go_sem]
  have r1 : W.cell? ⟨w.heap.size + 1, 1, none⟩ = some (.int .i64 0) := by rw [← hW]; simp [go_sem]
  have r2 : W.cell? ⟨w.heap.size + 1, 2, none⟩ = some (.int .i64 0) := by rw [← hW]; simp [go_sem]
  have r3 : W.cell? ⟨w.heap.size + 1, 3, none⟩ = some (.int .i64 0) := by rw [← hW]; simp [go_sem]
  have r4 : W.cell? ⟨w.heap.size + 1, 4, none⟩ = some (.slice none 0 0) := by rw [← hW]; simp [go_sem]
  have r5 : W.cell? ⟨w.heap.size + 1, 5, none⟩ = some (.slice none 0 0) := by rw [← hW]; simp [go_sem]
  have F0 := hid (show ∀ o, W.frozen? ⟨w.heap.size, o, none⟩ = false from fun o => by rw [← hW]; exact fz1 _ _ _ _ o)
  have F1 := hid (show ∀ o, W.frozen? ⟨w.heap.size + 1, o, none⟩ = false from fun o => by rw [← hW]; exact fz2 _ _ _ _ o)
  have HBW := hid (show Below w.heap.size w W from by rw [← hW]; exact bel)
  clear hW
  refine (lentRules_any p.outs oa oc W (rdRules.to HO.out HBW.out)).mono ?_
  rintro e w1 ⟨v1, rfl, hln, hb1⟩
  obtain ⟨sa, sn, sc, hve⟩ := hln.sl
  subst hve
  have HN1 := hid (lnRules.base HO.out HBW.out hln)
  have HB1 := hid hb1
  have hs1 := hb1.size
  have a0 := cell_to q0 hb1
  have a1 := cell_to q1 hb1
  have a2 := cell_to q2 hb1
  have a3 := cell_to q3 hb1
  have a4 := cell_to q4 hb1
  have a5 := cell_to q5 hb1
  have b0 := cell_to r0 hb1
  have b1 := cell_to r1 hb1
  have b2 := cell_to r2 hb1
  have b3 := cell_to r3 hb1
  have b4 := cell_to r4 hb1
  have b5 := cell_to r5 hb1
  have f0 : ∀ o, w1.frozen? ⟨w.heap.size, o, none⟩ = false := fun o => by rw [hb1.frozen (p := ⟨w.heap.size, o, none⟩) (by show w.heap.size < _; omega)]; exact F0.out o
  have f1 : ∀ o, w1.frozen? ⟨w.heap.size + 1, o, none⟩ = false := fun o => by rw [hb1.frozen (p := ⟨w.heap.size + 1, o, none⟩) (by show w.heap.size + 1 < _; omega)]; exact F1.out o
  clear q0 q1 q2 q3 q4 q5 r0 r1 r2 r3 r4 r5 hln hb1
  go_wp2_with fail
  generalize hX : w1.setCell ⟨w.heap.size, 4, none⟩ (.slice sa sn sc) = X
  have hsX : X.heap.size = w1.heap.size := by rw [← hX]; simp [World.setCell]
  have c0 : X.cell? ⟨w.heap.size, 0, none⟩ = some (.int .i64 p.space) := by rw [← hX, World.cell?_setCell_other _ _ _ _ (fun h => by simp at h)]; exact a0
  have c1 : X.cell? ⟨w.heap.size, 1, none⟩ = some (.int .i64 p.need) := by rw [← hX, World.cell?_setCell_other _ _ _ _ (fun h => by simp at h)]; exact a1
  have c2 : X.cell? ⟨w.heap.size, 2, none⟩ = some (.int .i64 p.ban) := by rw [← hX, World.cell?_setCell_other _ _ _ _ (fun h => by simp at h)]; exact a2
  have c3 : X.cell? ⟨w.heap.size, 3, none⟩ = some (.int .i64 p.ways) := by rw [← hX, World.cell?_setCell_other _ _ _ _ (fun h => by simp at h)]; exact a3
  have c4 : X.cell? ⟨w.heap.size, 4, none⟩ = some (.slice sa sn sc) := by rw [← hX]; exact World.cell?_setCell_same w1 _ _ a4
  have c5 : X.cell? ⟨w.heap.size, 5, none⟩ = some (.slice ia p.ins.length ic) := by rw [← hX, World.cell?_setCell_other _ _ _ _ (fun h => by simp at h)]; exact a5
  have hXb : ∀ j, j ≠ w.heap.size → X.heap[j]? = w1.heap[j]? := fun j hj => by rw [← hX]; exact Below.heap_setCell _ _ _ _ hj
  have d0 : X.cell? ⟨w.heap.size + 1, 0, none⟩ = some (.int .i64 0) := by rw [cell_heap (hXb _ (by omega))]; exact b0
  have d1 : X.cell? ⟨w.heap.size + 1, 1, none⟩ = some (.int .i64 0) := by rw [cell_heap (hXb _ (by omega))]; exact b1
  have d2 : X.cell? ⟨w.heap.size + 1, 2, none⟩ = some (.int .i64 0) := by rw [cell_heap (hXb _ (by omega))]; exact b2
  have d3 : X.cell? ⟨w.heap.size + 1, 3, none⟩ = some (.int .i64 0) := by rw [cell_heap (hXb _ (by omega))]; exact b3
  have d4 : X.cell? ⟨w.heap.size + 1, 4, none⟩ = some (.slice none 0 0) := by rw [cell_heap (hXb _ (by omega))]; exact b4
  have d5 : X.cell? ⟨w.heap.size + 1, 5, none⟩ = some (.slice none 0 0) := by rw [cell_heap (hXb _ (by omega))]; exact b5
  have HXB := hid hXb
  have g0 : ∀ o, X.frozen? ⟨w.heap.size, o, none⟩ = false := fun o => by rw [← hX]; exact (own_set (n := 0) ⟨fun o ho => absurd ho (Nat.not_lt_zero _), f0⟩ 4 _).2 o
  have g1 : ∀ o, X.frozen? ⟨w.heap.size + 1, o, none⟩ = false := fun o => by rw [World.frozen?_of_block (w := w1) (a := ⟨w.heap.size + 1, o, none⟩) (hXb (w.heap.size + 1) (by omega))]; exact f1 o
  have HBX := hid (show Below w.heap.size w X from by rw [← hX]; exact (Ext.trans HBW.out HB1.out).setCell (Nat.le_refl _) _)
  clear hX hXb a0 a1 a2 a3 a4 a5 b0 b1 b2 b3 b4 b5 f0 f1
  refine (lentRules_any p.ins ia ic X (rdRules.to HI.out HBX.out)).mono ?_
  rintro e w2 ⟨v2, rfl, hln, hb2⟩
  obtain ⟨ta, tn, tc, hte⟩ := hln.sl
  subst hte
  have HN2 := hid (lnRules.base HI.out HBX.out hln)
  have HB2 := hid hb2
  have hs2 := hb2.size
  have a0 := cell_to c0 hb2
  have a1 := cell_to c1 hb2
  have a2 := cell_to c2 hb2
  have a3 := cell_to c3 hb2
  have a4 := cell_to c4 hb2
  have a5 := cell_to c5 hb2
  have b0 := cell_to d0 hb2
  have b1 := cell_to d1 hb2
  have b2 := cell_to d2 hb2
  have b3 := cell_to d3 hb2
  have b4 := cell_to d4 hb2
  have b5 := cell_to d5 hb2
  have f0 : ∀ o, w2.frozen? ⟨w.heap.size, o, none⟩ = false := fun o => by rw [hb2.frozen (p := ⟨w.heap.size, o, none⟩) (by show w.heap.size < _; omega)]; exact g0 o
  have f1 : ∀ o, w2.frozen? ⟨w.heap.size + 1, o, none⟩ = false := fun o => by rw [hb2.frozen (p := ⟨w.heap.size + 1, o, none⟩) (by show w.heap.size + 1 < _; omega)]; exact g1 o
  clear c0 c1 c2 c3 c4 c5 d0 d1 d2 d3 d4 d5 g0 g1 hln hb2
  go_wp2
  generalize hY : (((((((w2.setCell ⟨w.heap.size, 5, none⟩ (.slice ta tn tc)).setCell ⟨w.heap.size + 1, 0, none⟩ (.int .i64 p.space)).setCell ⟨w.heap.size + 1, 1, none⟩ (.int .i64 p.need)).setCell ⟨w.heap.size + 1, 2, none⟩ (.int .i64 p.ban)).setCell ⟨w.heap.size + 1, 3, none⟩ (.int .i64 p.ways)).setCell ⟨w.heap.size + 1, 4, none⟩ (.slice sa sn sc)).setCell ⟨w.heap.size + 1, 5, none⟩ (.slice ta tn tc)) = Y
  have hY2 : Y = sets (w2.setCell ⟨w.heap.size, 5, none⟩ (.slice ta tn tc)) (w.heap.size + 1) 0 [.int .i64 p.space, .int .i64 p.need, .int .i64 p.ban, .int .i64 p.ways, .slice sa sn sc, .slice ta tn tc] := hY.symm
  clear hY
  have hsY : Y.heap.size = w2.heap.size := by rw [hY2, sets_size]; simp [World.setCell]
  have hYb : ∀ j, j ≠ w.heap.size → j ≠ w.heap.size + 1 → Y.heap[j]? = w2.heap[j]? := fun j h1 h2 => by rw [hY2, sets_block _ _ _ _ _ h2, Below.heap_setCell _ _ _ _ h1]
  have hown : own (w2.setCell ⟨w.heap.size, 5, none⟩ (.slice ta tn tc)) (w.heap.size + 1) 6 := by
    refine own_heap (w := w2) ⟨fun o ho => ?_, f1⟩ (Below.heap_setCell _ _ _ _ (by show w.heap.size + 1 ≠ w.heap.size; omega))
    match o, ho with
    | 0, _ => exact ⟨_, b0⟩
    | 1, _ => exact ⟨_, b1⟩
    | 2, _ => exact ⟨_, b2⟩
    | 3, _ => exact ⟨_, b3⟩
    | 4, _ => exact ⟨_, b4⟩
    | 5, _ => exact ⟨_, b5⟩
  have yc : ∀ i v, ([.int .i64 p.space, .int .i64 p.need, .int .i64 p.ban, .int .i64 p.ways, .slice sa sn sc, .slice ta tn tc] : List Value)[i]? = some v → Y.cell? ⟨w.heap.size + 1, i, none⟩ = some v := fun i v hv => by
    have := sets_at _ _ 0 6 _ i v hv (by simp) hown
    rw [hY2]
    simpa using this
  have y0 := yc 0 _ rfl
  have y1 := yc 1 _ rfl
  have y2 := yc 2 _ rfl
  have y3 := yc 3 _ rfl
  have y4 := yc 4 _ rfl
  have y5 := yc 5 _ rfl
  have hBY : Below w.heap.size w Y := by
    refine (Ext.trans HBX.out HB2.out).trans ?_
    exact ⟨by rw [hY2]; exact ((Only.refl _ _ _).setCell (p := ⟨w.heap.size, 5, none⟩) (lo := w.heap.size) (hi := w.heap.size + 1) (Nat.le_refl _) (Nat.lt_succ_self _) _ |>.mono (lo' := w.heap.size) (hi' := w.heap.size + 2) (Nat.le_refl _) (by omega) |>.trans ((sets_only _ _ _ _).mono (by omega) (by omega))).1.1,
      by rw [hY2]; exact ((Only.refl _ _ _).setCell (p := ⟨w.heap.size, 5, none⟩) (lo := w.heap.size) (hi := w.heap.size + 1) (Nat.le_refl _) (Nat.lt_succ_self _) _ |>.mono (lo' := w.heap.size) (hi' := w.heap.size + 2) (Nat.le_refl _) (by omega) |>.trans ((sets_only _ _ _ _).mono (by omega) (by omega))).1.2.1,
      by rw [hY2]; exact ((Only.refl _ _ _).setCell (p := ⟨w.heap.size, 5, none⟩) (lo := w.heap.size) (hi := w.heap.size + 1) (Nat.le_refl _) (Nat.lt_succ_self _) _ |>.mono (lo' := w.heap.size) (hi' := w.heap.size + 2) (Nat.le_refl _) (by omega) |>.trans ((sets_only _ _ _ _).mono (by omega) (by omega))).1.2.2,
      by omega, fun j hj => hYb j (by omega) (by omega)⟩
  refine bodyPost_ret (v := .agg #[.int .i64 p.space, .int .i64 p.need, .int .i64 p.ban, .int .i64 p.ways, .slice sa sn sc, .slice ta tn tc]) (by simp [results, Tryz.results86, go_sem, y0, y1, y2, y3, y4, y5]) rfl ⟨w1.heap.size, sa, sn, sc, ta, tn, tc, rfl, by omega, by omega, ?_, ?_, hBY⟩
  · refine (HN1.out.heap fun j h1 h2 => ?_).mono (by omega) (Nat.le_refl _)
    rw [hYb j (by omega) (by omega), HB2.out.block j (by omega), HXB.out j (by omega)]
  · refine (HN2.out.heap fun j h1 h2 => ?_).mono (by omega) (by omega)
    exact hYb j (by omega) (by omega)
end Go.Proofs.YtmkjlhplgcifiaaGreat
