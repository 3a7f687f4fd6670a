/-
  Behind the call: are the lists as they were? Then the caller writes over them: lists of plain structs.
-/
import Derived.Test.YtmkjlhplgcifiaaM1
import Derived.Test.YtmkjlhplgcifiaaGrow
import Derived.Test.YtmkjlhplgcifiaaL7
namespace Go.Proofs.Ytmkjlhplgcifiaa
open Go.ChangeShapes Go.WideShapes Go.ChangeAt Go.RowKit
attribute [local simp] World.cell?_grow
attribute [local go_sem] World.cell?_grow
attribute [local simp] World.cell?_alloc_there
attribute [local go_sem] World.cell?_alloc_there
attribute [local go_sem] eqg_blk std_blk eqg_pod std_pod eqg_sel std_sel eqg_prt std_prt
attribute [local go_sem ↓] eql_blk eql_sel neq_sel eql_prt eql_pod
attribute [local go_sem ↓] met_in1 met_in2 met_re1 met_re2
set_option linter.unusedVariables false
set_option linter.unusedSimpArgs false

/-- of the blocks that were there only those from lo up to hi may have turned -/
def Only (lo hi : Nat) (w w' : World) : Prop :=
  (w'.os = w.os ∧ w'.tape = w.tape ∧ w'.output = w.output) ∧ w.heap.size ≤ w'.heap.size ∧ ∀ k, k < w.heap.size → ¬ (lo ≤ k ∧ k < hi) → w'.heap[k]? = w.heap[k]?
theorem Only.refl (lo hi : Nat) (w : World) : Only lo hi w w := ⟨⟨rfl, rfl, rfl⟩, Nat.le_refl _, fun _ _ _ => rfl⟩
theorem Only.trans {lo hi : Nat} {a b c : World} (h : Only lo hi a b) (k : Only lo hi b c) : Only lo hi a c :=
  ⟨⟨k.1.1.trans h.1.1, k.1.2.1.trans h.1.2.1, k.1.2.2.trans h.1.2.2⟩, Nat.le_trans h.2.1 k.2.1, fun i hi' hn => (k.2.2 i (Nat.lt_of_lt_of_le hi' h.2.1) hn).trans (h.2.2 i hi' hn)⟩
theorem Only.mono {lo hi lo' hi' : Nat} {a b : World} (h : Only lo hi a b) (h1 : lo' ≤ lo) (h2 : hi ≤ hi') : Only lo' hi' a b :=
  ⟨h.1, h.2.1, fun k hk hn => h.2.2 k hk (by omega)⟩
theorem Only.of_below {lo hi : Nat} {a b : World} (h : Below a.heap.size a b) : Only lo hi a b := ⟨⟨h.os, h.tape, h.output⟩, h.size, fun k hk _ => h.block k hk⟩
theorem Only.setCell {lo hi : Nat} {a w : World} (h : Only lo hi a w) {p : Addr} (h1 : lo ≤ p.block) (h2 : p.block < hi) (u : Value) : Only lo hi a (w.setCell p u) :=
  ⟨h.1, Nat.le_trans h.2.1 (by simp [World.setCell]), fun k hk hn => by rw [Below.heap_setCell _ _ _ _ (by omega)]; exact h.2.2 k hk hn⟩
theorem Only.below {lo hi B : Nat} {a w : World} (h : Only lo hi a w) (hB : B ≤ lo) (hs : B ≤ a.heap.size) : Below B a w :=
  ⟨h.1.1, h.1.2.1, h.1.2.2, h.2.1, fun k hk => h.2.2 k (by omega) (by omega)⟩
theorem Only.heap {lo hi : Nat} {a w : World} (h : Only lo hi a w) {k : Nat} (hk : k < a.heap.size) (hn : ¬ (lo ≤ k ∧ k < hi)) : w.heap[k]? = a.heap[k]? := h.2.2 k hk hn
theorem cell_heap {a w : World} {g o : Nat} (h : w.heap[g]? = a.heap[g]?) : w.cell? ⟨g, o, none⟩ = a.cell? ⟨g, o, none⟩ := World.cell?_of_block (w := a) h

/-- a block of the caller's own: so many cells, none frozen -/
def own (w : World) (g n : Nat) : Prop := (∀ o, o < n → ∃ v, w.cell? ⟨g, o, none⟩ = some v) ∧ ∀ o, w.frozen? ⟨g, o, none⟩ = false
theorem own_of {w : World} {g n : Nat} {c : Array Value} {t : TypeId} (h : w.heap[g]? = some (.cells c t (0, 0))) (hs : c.size = n) : own w g n := by
  refine ⟨fun o ho => ⟨c[o]'(by omega), by simp [World.cell?, h, hs, ho]⟩, fun o => by simp [World.frozen?, h]⟩
theorem own_heap {w w' : World} {g n : Nat} (h : own w g n) (he : w'.heap[g]? = w.heap[g]?) : own w' g n :=
  ⟨fun o ho => by rw [World.cell?_of_block (w := w) he]; exact h.1 o ho, fun o => by rw [World.frozen?_of_block (w := w) he]; exact h.2 o⟩
theorem own_set {w : World} {g n : Nat} (h : own w g n) (o : Nat) (u : Value) : own (w.setCell ⟨g, o, none⟩ u) g n := by
  refine ⟨fun p hp => ?_, fun p => ?_⟩
  · obtain ⟨v, hv⟩ := h.1 p hp
    by_cases e : p = o
    · subst e
      exact ⟨u, World.cell?_setCell_same w _ _ hv⟩
    · exact ⟨v, by rw [World.cell?_setCell_other _ _ _ _ (fun h => e (by cases h; rfl))]; exact hv⟩
  · have := h.2 p
    simp only [World.frozen?, World.setCell, Array.getElem?_modify] at this ⊢
    cases hq : w.heap[g]? with
    | none => simp [hq]
    | some ob => cases ob <;> simp_all
theorem row_cell {w : World} {g : Nat} {c : List Value} {t : TypeId} (h : w.heap[g]? = some (.cells c.toArray t (0, 0))) {o : Nat} {v : Value} (hv : c[o]? = some v) : w.cell? ⟨g, o, none⟩ = some v := by
  simp only [World.cell?, h]
  simpa using hv

set_option maxHeartbeats 2000000 in
theorem back_blk (l : List DBlk) (a : Addr) (cap B g : Nat) (w : World) (hr : rdBlks B w (some a) l) (hB : B ≤ g) (hg : w.heap[g]? = some (.cells (l.flatMap bCells ++ ([.int .i64 (-7), .int .i64 7] : List Value)).toArray 44 (0, 0))) :
    Calls Try.prog 73 #[.slice (some ⟨g, 0, none⟩) l.length (l.length + 1), .slice (some a) l.length cap] w fun e w' => e = .returned (.bool true) ∧ Only g (g + 1) w w' := by
  have HR := hid hr
  have HG := hid hg
  have hlen := hr.1
  have hgs : g < w.heap.size := by
    rcases Nat.lt_or_ge g w.heap.size with h | h
    · exact h
    · rw [Array.getElem?_eq_none h] at hg; cases hg
  have HO := hid (own_of hg (show _ = (l.length + 1) * 2 by simp [flat_len bCells 2 lens_blk, Nat.succ_mul]))
  clear hr hg
  have hq : ∀ w, (binOp .eql 45 (.slice (some a) l.length cap) (.slice none 0 0)).run Try.prog w = .ok (.bool false) w := fun w => Lib.run_eql_slice_nil w 45 44 _ _ _ _ _ und_blk
  have hne : ((l.length : Int) != (l.length : Int)) = false := by simp
  have s0 : w.cell? ⟨g, l.length * 2, none⟩ = some (.int .i64 (-7)) := row_cell HG.out ((flat_end bCells 2 lens_blk l _ 0).trans rfl)
  have s1 : w.cell? ⟨g, l.length * 2 + 1, none⟩ = some (.int .i64 7) := row_cell HG.out ((flat_end bCells 2 lens_blk l _ 1).trans rfl)
  go_enter Try.func73, Try.ntmps73
  go_wp2
  go_loopw [6, 7] (fun ok i wr => ∃ k : Nat, k ≤ l.length ∧ i = .int .i64 k ∧ ok = .bool true ∧ Below w.heap.size w wr) (fun _ i _ => l.length - (intOf i).toNat)
  case atStart => exact ⟨0, Nat.zero_le _, rfl, rfl, Below.refl _ _⟩
  case round =>
    obtain ⟨k, hk, rfl, rfl, hbw⟩ := hrel
    by_cases hlt : k < l.length
    · obtain ⟨x, hxk⟩ : ∃ x, l[k]? = some x := ⟨l[k], by simp [hlt]⟩
      have HX := hid hxk
      clear hxk
      obtain ⟨b, off, he, hb, c0, c1⟩ := HR.out.2 k x HX.out
      cases he
      have d0 := cell_to c0 hbw
      have d1 := cell_to c1 hbw
      have e0 : wr.cell? ⟨g, k * 2, none⟩ = some (.int .i64 x.base) := cell_to (row_cell HG.out ((flat_at bCells 2 lens_blk l _ k x HX.out 0 (by omega)).trans rfl)) hbw
      have e1 : wr.cell? ⟨g, k * 2 + 1, none⟩ = some (.int .i64 x.bits) := cell_to (row_cell HG.out ((flat_at bCells 2 lens_blk l _ k x HX.out 1 (by omega)).trans rfl)) hbw
      clear c0 c1 s0 s1
      go_wp2
      refine wp_region_grow (by kernel_rfl) (by kernel_rfl) ?_
      repeat (go_big_quiet_step (fail))
      refine wpQuiet_nil ?_
      intro w1 hb1
      obtain ⟨hc1, hf1⟩ := bcell hb1
      have hz1 := hb_lt hb1
      go_wp2
      exact ⟨⟨k + 1, by omega, by go_num, by simp, Ext.trans hbw hb1⟩, by simp [intOf]; omega⟩
    · obtain ⟨wa, hwa⟩ : ∃ wa, wa = wr := ⟨_, rfl⟩
      subst hwa
      have HB := hid hbw
      clear s0 s1
      go_wp2
      go_loopw [8] (fun i wr => ∃ k : Nat, k ≤ l.length + 1 ∧ i = .int .i64 k ∧ own wr g ((l.length + 1) * 2) ∧ Only g (g + 1) w wr) (fun i _ => l.length + 1 - (intOf i).toNat)
      case atStart => exact ⟨0, Nat.zero_le _, rfl, own_heap HO.out (HB.out.block g hgs), Only.of_below HB.out⟩
      case round =>
        obtain ⟨k, hk, rfl, hown, hon⟩ := hrel
        have HON := hid hon
        have HOW := hid hown
        by_cases hlt2 : k < l.length + 1
        · have hfr := hown.2
          obtain ⟨v0, e0⟩ := hown.1 (k * 2) (by omega)
          obtain ⟨v1, e1⟩ := hown.1 (k * 2 + 1) (by omega)
          clear hown hon
          go_wp2
          exact ⟨⟨k + 1, by omega, by go_num, (own_set (own_set HOW.out _ _) _ _), ((HON.out.setCell (Nat.le_refl _) (Nat.lt_succ_self _) _).setCell (Nat.le_refl _) (Nat.lt_succ_self _) _)⟩, by simp [intOf]; omega⟩
        · clear hown hon
          go_wp2
          go_ret
          exact ⟨rfl, HON.out⟩
theorem backNil_blk (hc cap : Nat) (w : World) :
    Calls Try.prog 73 #[.slice none 0 hc, .slice none 0 cap] w fun e w' => e = .returned (.bool true) ∧ w' = w := by
  have hq : ∀ c w, (binOp .eql 45 (.slice none 0 c) (.slice none 0 0)).run Try.prog w = .ok (.bool true) w := fun c w => Lib.run_eql_slice_nil w 45 44 _ _ _ _ _ und_blk
  go_enter Try.func73, Try.ntmps73
  go_wp2
  go_ret
  exact ⟨rfl, rfl⟩

set_option maxHeartbeats 2000000 in
theorem back_prt (l : List DPort) (a : Addr) (cap B g : Nat) (w : World) (hr : rdPorts B w (some a) l) (hB : B ≤ g) (hg : w.heap[g]? = some (.cells (l.flatMap tCells ++ ([.int .i64 (-7), .int .i64 0, .int .i64 0] : List Value)).toArray 50 (0, 0))) :
    Calls Try.prog 57 #[.slice (some ⟨g, 0, none⟩) l.length (l.length + 1), .slice (some a) l.length cap] w fun e w' => e = .returned (.bool true) ∧ Only g (g + 1) w w' := by
  have HR := hid hr
  have HG := hid hg
  have hlen := hr.1
  have hgs : g < w.heap.size := by
    rcases Nat.lt_or_ge g w.heap.size with h | h
    · exact h
    · rw [Array.getElem?_eq_none h] at hg; cases hg
  have HO := hid (own_of hg (show _ = (l.length + 1) * 3 by simp [flat_len tCells 3 lens_prt, Nat.succ_mul]))
  clear hr hg
  have hq : ∀ w, (binOp .eql 51 (.slice (some a) l.length cap) (.slice none 0 0)).run Try.prog w = .ok (.bool false) w := fun w => Lib.run_eql_slice_nil w 51 50 _ _ _ _ _ und_prt
  have hne : ((l.length : Int) != (l.length : Int)) = false := by simp
  have s0 : w.cell? ⟨g, l.length * 3, none⟩ = some (.int .i64 (-7)) := row_cell HG.out ((flat_end tCells 3 lens_prt l _ 0).trans rfl)
  have s1 : w.cell? ⟨g, l.length * 3 + 1, none⟩ = some (.int .i64 0) := row_cell HG.out ((flat_end tCells 3 lens_prt l _ 1).trans rfl)
  have s2 : w.cell? ⟨g, l.length * 3 + 2, none⟩ = some (.int .i64 0) := row_cell HG.out ((flat_end tCells 3 lens_prt l _ 2).trans rfl)
  go_enter Try.func57, Try.ntmps57
  go_wp2
  go_loopw [6, 7] (fun ok i wr => ∃ k : Nat, k ≤ l.length ∧ i = .int .i64 k ∧ ok = .bool true ∧ Below w.heap.size w wr) (fun _ i _ => l.length - (intOf i).toNat)
  case atStart => exact ⟨0, Nat.zero_le _, rfl, rfl, Below.refl _ _⟩
  case round =>
    obtain ⟨k, hk, rfl, rfl, hbw⟩ := hrel
    by_cases hlt : k < l.length
    · obtain ⟨x, hxk⟩ : ∃ x, l[k]? = some x := ⟨l[k], by simp [hlt]⟩
      have HX := hid hxk
      clear hxk
      obtain ⟨b, off, he, hb, c0, c1, c2⟩ := HR.out.2 k x HX.out
      cases he
      have d0 := cell_to c0 hbw
      have d1 := cell_to c1 hbw
      have d2 := cell_to c2 hbw
      have e0 : wr.cell? ⟨g, k * 3, none⟩ = some (.int .i64 x.proto) := cell_to (row_cell HG.out ((flat_at tCells 3 lens_prt l _ k x HX.out 0 (by omega)).trans rfl)) hbw
      have e1 : wr.cell? ⟨g, k * 3 + 1, none⟩ = some (.int .i64 x.lo) := cell_to (row_cell HG.out ((flat_at tCells 3 lens_prt l _ k x HX.out 1 (by omega)).trans rfl)) hbw
      have e2 : wr.cell? ⟨g, k * 3 + 2, none⟩ = some (.int .i64 x.hi) := cell_to (row_cell HG.out ((flat_at tCells 3 lens_prt l _ k x HX.out 2 (by omega)).trans rfl)) hbw
      clear c0 c1 c2 s0 s1 s2
      go_wp2
      refine wp_region_grow (by kernel_rfl) (by kernel_rfl) ?_
      repeat (go_big_quiet_step (fail))
      refine wpQuiet_nil ?_
      intro w1 hb1
      obtain ⟨hc1, hf1⟩ := bcell hb1
      have hz1 := hb_lt hb1
      go_wp2
      exact ⟨⟨k + 1, by omega, by go_num, by simp, Ext.trans hbw hb1⟩, by simp [intOf]; omega⟩
    · obtain ⟨wa, hwa⟩ : ∃ wa, wa = wr := ⟨_, rfl⟩
      subst hwa
      have HB := hid hbw
      clear s0 s1 s2
      go_wp2
      go_loopw [8] (fun i wr => ∃ k : Nat, k ≤ l.length + 1 ∧ i = .int .i64 k ∧ own wr g ((l.length + 1) * 3) ∧ Only g (g + 1) w wr) (fun i _ => l.length + 1 - (intOf i).toNat)
      case atStart => exact ⟨0, Nat.zero_le _, rfl, own_heap HO.out (HB.out.block g hgs), Only.of_below HB.out⟩
      case round =>
        obtain ⟨k, hk, rfl, hown, hon⟩ := hrel
        have HON := hid hon
        have HOW := hid hown
        by_cases hlt2 : k < l.length + 1
        · have hfr := hown.2
          obtain ⟨v0, e0⟩ := hown.1 (k * 3) (by omega)
          obtain ⟨v1, e1⟩ := hown.1 (k * 3 + 1) (by omega)
          obtain ⟨v2, e2⟩ := hown.1 (k * 3 + 2) (by omega)
          clear hown hon
          go_wp2
          exact ⟨⟨k + 1, by omega, by go_num, (own_set (own_set (own_set HOW.out _ _) _ _) _ _), (((HON.out.setCell (Nat.le_refl _) (Nat.lt_succ_self _) _).setCell (Nat.le_refl _) (Nat.lt_succ_self _) _).setCell (Nat.le_refl _) (Nat.lt_succ_self _) _)⟩, by simp [intOf]; omega⟩
        · clear hown hon
          go_wp2
          go_ret
          exact ⟨rfl, HON.out⟩
theorem backNil_prt (hc cap : Nat) (w : World) :
    Calls Try.prog 57 #[.slice none 0 hc, .slice none 0 cap] w fun e w' => e = .returned (.bool true) ∧ w' = w := by
  have hq : ∀ c w, (binOp .eql 51 (.slice none 0 c) (.slice none 0 0)).run Try.prog w = .ok (.bool true) w := fun c w => Lib.run_eql_slice_nil w 51 50 _ _ _ _ _ und_prt
  go_enter Try.func57, Try.ntmps57
  go_wp2
  go_ret
  exact ⟨rfl, rfl⟩
end Go.Proofs.Ytmkjlhplgcifiaa
