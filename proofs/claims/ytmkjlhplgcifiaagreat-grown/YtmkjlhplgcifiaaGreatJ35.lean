/-
  row.Once: each row but once.
-/
import Derived.Test.YtmkjlhplgcifiaaGreatJ34
namespace Go.Proofs.YtmkjlhplgcifiaaGreat
open Go.ChangeShapes Go.WideShapes Go.ChangeAt Go.RowKit
attribute [local simp] World.cell?_grow
attribute [local go_sem] World.cell?_grow
attribute [local simp] World.cell?_alloc_there
attribute [local go_sem] World.cell?_alloc_there
attribute [local go_sem] eqg_blk std_blk eqg_pod std_pod eqg_sel std_sel eqg_prt std_prt
attribute [local go_sem ↓] eql_blk eql_sel neq_sel eql_prt eql_pod
attribute [local go_sem ↓] met_in1 met_in2 met_re1 met_re2
attribute [local go_sem ↓] met_has1 met_has2
attribute [local go_sem ↓] met_bl1 met_bl2
attribute [local go_sem] eqg_row std_row
attribute [local go_sem ↓] neq_row
set_option linter.unusedVariables false
set_option linter.unusedSimpArgs false
theorem mem_take_snoc {l : List DRow} {k : Nat} {x : DRow} (h : l[k]? = some x) (L : List DRow) (hL : ∀ r, r ∈ L ↔ r ∈ l.take k) : ∀ r, r ∈ L ++ [x] ↔ r ∈ l.take (k + 1) := fun r => by
  rw [List.take_add_one, h, List.mem_append, hL r]; simp
theorem mem_take_same {l : List DRow} {k : Nat} {x : DRow} (h : l[k]? = some x) (L : List DRow) (hL : ∀ r, r ∈ L ↔ r ∈ l.take k) (hx : x ∈ L) : ∀ r, r ∈ L ↔ r ∈ l.take (k + 1) := fun r => by
  rw [List.take_add_one, h, List.mem_append, ← hL r]
  constructor
  · exact .inl
  · rintro (h | h)
    · exact h
    · simp at h; subst h; exact hx
theorem ix_ne0 (n : Nat) : (((n : Int) + 1) == 0) = false := by
  have h : ¬ ((n : Int) + 1 = 0) := by omega
  simp [h]
theorem ix_wrap (n : Nat) (h : n ≤ 140737488351232) : IntKind.i64.wrap (n : Int) = (n : Int) := by rw [IntKind.wrap_i64]; omega
theorem ix_lt (n : Nat) : (n : Int) < (n : Int) + 1 := by omega
theorem ix_nn (n : Nat) : (0 : Int) ≤ (n : Int) := by omega
set_option maxRecDepth 100000 in
set_option maxHeartbeats 800000 in
theorem once_any (a : Option Addr) (cap : Nat) (zs : List DRow) (w : World) (hz : rdRows w.heap.size w a zs) :
    Calls Tryz.prog 135 #[.slice a zs.length cap] w fun e w' => (∃ (v : Value) (L : List DRow), e = .returned v ∧ w'.ownsRow w.heap.size 49 8 v L.length (L.flatMap encRow) ∧ (∀ r, r ∈ L ↔ r ∈ zs) ∧ L.length ≤ zs.length) ∧ Below w.heap.size w w' := by
  have HZ := hid hz
  have hlen := hz.1
  clear hz
  obtain ⟨i0, hi, iz0, iz1, iz2⟩ := info_parts info_row
  go_enter Tryz.func135, Tryz.ntmps135
  go_wp2_with (first
    | (go_at_call 164; refine (rvalues_any _ _ _ _).mono ?_; rintro e w1 ⟨rfl, rfl⟩)
    | (go_at_call 163; refine (sortedFunc_any a cap _ zs _ (by simp [go_sem]) (rdRows.to HZ.out (by repeat (first | exact Below.refl _ _ | assumption | apply Ext.alloc | apply Ext.drewN | apply Ext.drew | refine Ext.trans ?_ (by assumption))))).mono ?_; rintro e W ⟨⟨sa, sc, l, rfl, hp, hr⟩, hb⟩; have HP := hid hp; have HR := hid hr.2; have HLL := hid hp.length_eq; clear hp hr))
  have hBW : Below w.heap.size w W := (by repeat (first | exact Below.refl _ _ | assumption | apply Ext.alloc | apply Ext.drewN | apply Ext.drew | refine Ext.trans ?_ (by assumption)))
  have HBa := hid hBW
  have hWs := hBW.size
  clear hb hBW
  have hlen2 : l.length * 64 ≤ 140737488351232 := by rw [HLL.out]; exact hlen
  go_loopw [3, 10] (fun kv i wr => ∃ (k : Nat) (L : List DRow), k ≤ l.length ∧ i = .int .i64 k ∧ wr.ownsRow W.heap.size 49 8 kv L.length (L.flatMap encRow) ∧ (∀ r, r ∈ L ↔ r ∈ l.take k) ∧ L.length ≤ k ∧ Below W.heap.size W wr) (fun _ i _ => l.length - (intOf i).toNat)
  case atStart => exact ⟨0, [], Nat.zero_le _, rfl, World.ownsRow_nil _ _ _ _, fun r => by simp, Nat.le_refl _, Below.refl _ _⟩
  case round =>
    obtain ⟨k, L, hk, rfl, hown, hL, hLk, hbw⟩ := hrel
    have HO2 := hid hown
    have HL := hid hL
    have HBW := hid hbw
    have HB := hid (show Below w.heap.size w wr from HBa.out.trans (hbw.mono hWs))
    clear hL
    by_cases hlt : k < l.length
    · obtain ⟨x, hxk⟩ : ∃ x, l[k]? = some x := ⟨l[k], by simp [hlt]⟩
      have HX := hid hxk
      clear hxk
      obtain ⟨b, off, rfl, hb, c0, c1, c2, c3, c4, c5, c6, c7⟩ := HR.out k x HX.out
      have d0 := cell_to c0 hbw
      have d1 := cell_to c1 hbw
      have d2 := cell_to c2 hbw
      have d3 := cell_to c3 hbw
      have d4 := cell_to c4 hbw
      have d5 := cell_to c5 hbw
      have d6 := cell_to c6 hbw
      have d7 := cell_to c7 hbw
      clear c0 c1 c2 c3 c4 c5 c6 c7
      rcases List.eq_nil_or_concat L with hn | ⟨I, y, hy⟩
      · subst hn
        obtain ⟨va, vc, rfl, _, _⟩ := own_slice hown
        have HN := hid (show (0 : Nat) = 0 from rfl)
        clear hown
        simp only [List.length_nil] at HO2
        go_wp2
        refine wp_region_grow (by kernel_rfl) (by kernel_rfl) ?_
        repeat (go_big_quiet_step (fail))
        refine wpQuiet_nil ?_
        intro w1 hb1
        obtain ⟨hc1, hf1⟩ := bcell hb1
        have hz1 := hb_lt hb1
        have e0 : w1.cell? ⟨wr.heap.size, 0, none⟩ = some (.int .i64 x.sb) := cell_to (by simp [go_sem]) hb1
        have e1 : w1.cell? ⟨wr.heap.size, 1, none⟩ = some (.int .i64 x.sn) := cell_to (by simp [go_sem]) hb1
        have e2 : w1.cell? ⟨wr.heap.size, 2, none⟩ = some (.int .i64 x.db) := cell_to (by simp [go_sem]) hb1
        have e3 : w1.cell? ⟨wr.heap.size, 3, none⟩ = some (.int .i64 x.dn) := cell_to (by simp [go_sem]) hb1
        have e4 : w1.cell? ⟨wr.heap.size, 4, none⟩ = some (.int .i64 x.proto) := cell_to (by simp [go_sem]) hb1
        have e5 : w1.cell? ⟨wr.heap.size, 5, none⟩ = some (.int .i64 x.lo) := cell_to (by simp [go_sem]) hb1
        have e6 : w1.cell? ⟨wr.heap.size, 6, none⟩ = some (.int .i64 x.hi) := cell_to (by simp [go_sem]) hb1
        have e7 : w1.cell? ⟨wr.heap.size, 7, none⟩ = some (.bool x.allow) := cell_to (by simp [go_sem]) hb1
        have HO3 := hid (own_to (HO2.out.alloc (Obj.cells #[.int .i64 x.sb, .int .i64 x.sn, .int .i64 x.db, .int .i64 x.dn, .int .i64 x.proto, .int .i64 x.lo, .int .i64 x.hi, .bool x.allow] 49)) hb1)
        have hW1 : Below W.heap.size W w1 := (HBW.out.alloc HBW.out.size _).trans (hb1.mono (by have := HBW.out.size; simp; omega))
        clear hc1 hf1 hz1
        go_wp2_with (at_builtin; refine wpList_append_own _ rfl _ _ 40 rfl W.heap.size 49 i0 _ 8 64 Tryz.underlying40 hi iz0 iz1 iz2 rfl (by decide) _ _ _ rfl (HO3.out.alloc _) ⟨w1.heap.size, 0, none⟩ 1 1 [.int .i64 x.sb, .int .i64 x.sn, .int .i64 x.db, .int .i64 x.dn, .int .i64 x.proto, .int .i64 x.lo, .int .i64 x.hi, .bool x.allow] rfl rfl (cell_new_list _ [.int .i64 x.sb, .int .i64 x.sn, .int .i64 x.db, .int .i64 x.dn, .int .i64 x.proto, .int .i64 x.lo, .int .i64 x.hi, .bool x.allow] _) (fun u hu => by simp at hu; rcases hu with rfl | rfl | rfl | rfl | rfl | rfl | rfl | rfl <;> rfl) (by unfold maxLen; omega) (by omega) (by have := hW1.size; simp; omega) ?_; intro v' w3 hown' hg3 hn3)
        exact ⟨⟨k + 1, [x], by omega, by go_num, by simpa [encRow] using hown', mem_take_snoc HX.out [] HL.out, by simp, own_below (hW1.alloc hW1.size _) (by have := hW1.size; simp; omega) (HO3.out.alloc _) hg3⟩, by simp [intOf]; omega⟩
      · rw [List.concat_eq_append] at hy
        subst hy
        have hIl : (I ++ [y]).length = I.length + 1 := by simp
        obtain ⟨va, vc, rfl, _, _⟩ := own_slice hown
        obtain ⟨g, go, rfl, _, hg2, hyc⟩ := own_at (k := 8) encRow_len (by decide) hown I.length y (by simp)
        rw [hIl] at hLk HO2
        have z0 : (wr.alloc (Obj.cells #[.int .i64 x.sb, .int .i64 x.sn, .int .i64 x.db, .int .i64 x.dn, .int .i64 x.proto, .int .i64 x.lo, .int .i64 x.hi, .bool x.allow] 49)).cell? ⟨g, go + I.length * 8, none⟩ = some (.int .i64 y.sb) := cell_past (hyc 0 _ rfl)
        have z1 : (wr.alloc (Obj.cells #[.int .i64 x.sb, .int .i64 x.sn, .int .i64 x.db, .int .i64 x.dn, .int .i64 x.proto, .int .i64 x.lo, .int .i64 x.hi, .bool x.allow] 49)).cell? ⟨g, go + I.length * 8 + 1, none⟩ = some (.int .i64 y.sn) := cell_past (hyc 1 _ rfl)
        have z2 : (wr.alloc (Obj.cells #[.int .i64 x.sb, .int .i64 x.sn, .int .i64 x.db, .int .i64 x.dn, .int .i64 x.proto, .int .i64 x.lo, .int .i64 x.hi, .bool x.allow] 49)).cell? ⟨g, go + I.length * 8 + 2, none⟩ = some (.int .i64 y.db) := cell_past (hyc 2 _ rfl)
        have z3 : (wr.alloc (Obj.cells #[.int .i64 x.sb, .int .i64 x.sn, .int .i64 x.db, .int .i64 x.dn, .int .i64 x.proto, .int .i64 x.lo, .int .i64 x.hi, .bool x.allow] 49)).cell? ⟨g, go + I.length * 8 + 3, none⟩ = some (.int .i64 y.dn) := cell_past (hyc 3 _ rfl)
        have z4 : (wr.alloc (Obj.cells #[.int .i64 x.sb, .int .i64 x.sn, .int .i64 x.db, .int .i64 x.dn, .int .i64 x.proto, .int .i64 x.lo, .int .i64 x.hi, .bool x.allow] 49)).cell? ⟨g, go + I.length * 8 + 4, none⟩ = some (.int .i64 y.proto) := cell_past (hyc 4 _ rfl)
        have z5 : (wr.alloc (Obj.cells #[.int .i64 x.sb, .int .i64 x.sn, .int .i64 x.db, .int .i64 x.dn, .int .i64 x.proto, .int .i64 x.lo, .int .i64 x.hi, .bool x.allow] 49)).cell? ⟨g, go + I.length * 8 + 5, none⟩ = some (.int .i64 y.lo) := cell_past (hyc 5 _ rfl)
        have z6 : (wr.alloc (Obj.cells #[.int .i64 x.sb, .int .i64 x.sn, .int .i64 x.db, .int .i64 x.dn, .int .i64 x.proto, .int .i64 x.lo, .int .i64 x.hi, .bool x.allow] 49)).cell? ⟨g, go + I.length * 8 + 6, none⟩ = some (.int .i64 y.hi) := cell_past (hyc 6 _ rfl)
        have z7 : (wr.alloc (Obj.cells #[.int .i64 x.sb, .int .i64 x.sn, .int .i64 x.db, .int .i64 x.dn, .int .i64 x.proto, .int .i64 x.lo, .int .i64 x.hi, .bool x.allow] 49)).cell? ⟨g, go + I.length * 8 + 7, none⟩ = some (.bool y.allow) := cell_past (hyc 7 _ rfl)
        clear hyc hown
        have hq0 := ix_ne0 I.length
        have hq1 := ix_wrap I.length (by omega)
        have hq3 := ix_lt I.length
        have hq4 := ix_nn I.length
        simp only [hIl]
        cases hx : rowNe y x
        · have HEQ := hid (rowNe_false hx)
          go_wp2
          refine wp_region_grow (by kernel_rfl) (by kernel_rfl) ?_
          repeat (go_big_quiet_step (fail))
          refine wpQuiet_nil ?_
          intro w1 hb1
          obtain ⟨hc1, hf1⟩ := bcell hb1
          have hz1 := hb_lt hb1
          have e0 : w1.cell? ⟨wr.heap.size, 0, none⟩ = some (.int .i64 x.sb) := cell_to (by simp [go_sem]) hb1
          have e1 : w1.cell? ⟨wr.heap.size, 1, none⟩ = some (.int .i64 x.sn) := cell_to (by simp [go_sem]) hb1
          have e2 : w1.cell? ⟨wr.heap.size, 2, none⟩ = some (.int .i64 x.db) := cell_to (by simp [go_sem]) hb1
          have e3 : w1.cell? ⟨wr.heap.size, 3, none⟩ = some (.int .i64 x.dn) := cell_to (by simp [go_sem]) hb1
          have e4 : w1.cell? ⟨wr.heap.size, 4, none⟩ = some (.int .i64 x.proto) := cell_to (by simp [go_sem]) hb1
          have e5 : w1.cell? ⟨wr.heap.size, 5, none⟩ = some (.int .i64 x.lo) := cell_to (by simp [go_sem]) hb1
          have e6 : w1.cell? ⟨wr.heap.size, 6, none⟩ = some (.int .i64 x.hi) := cell_to (by simp [go_sem]) hb1
          have e7 : w1.cell? ⟨wr.heap.size, 7, none⟩ = some (.bool x.allow) := cell_to (by simp [go_sem]) hb1
          have HO3 := hid (own_to (HO2.out.alloc (Obj.cells #[.int .i64 x.sb, .int .i64 x.sn, .int .i64 x.db, .int .i64 x.dn, .int .i64 x.proto, .int .i64 x.lo, .int .i64 x.hi, .bool x.allow] 49)) hb1)
          have hW1 : Below W.heap.size W w1 := (HBW.out.alloc HBW.out.size _).trans (hb1.mono (by have := HBW.out.size; simp; omega))
          clear hc1 hf1 hz1
          go_wp2
          exact ⟨⟨k + 1, I ++ [y], by omega, by go_num, by rw [hIl]; simpa using HO3.out, mem_take_same HX.out _ HL.out (by rw [← HEQ.out]; simp), by rw [hIl]; omega, hW1⟩, by simp [intOf]; omega⟩
        · go_wp2
          refine wp_region_grow (by kernel_rfl) (by kernel_rfl) ?_
          repeat (go_big_quiet_step (fail))
          refine wpQuiet_nil ?_
          intro w1 hb1
          obtain ⟨hc1, hf1⟩ := bcell hb1
          have hz1 := hb_lt hb1
          have e0 : w1.cell? ⟨wr.heap.size, 0, none⟩ = some (.int .i64 x.sb) := cell_to (by simp [go_sem]) hb1
          have e1 : w1.cell? ⟨wr.heap.size, 1, none⟩ = some (.int .i64 x.sn) := cell_to (by simp [go_sem]) hb1
          have e2 : w1.cell? ⟨wr.heap.size, 2, none⟩ = some (.int .i64 x.db) := cell_to (by simp [go_sem]) hb1
          have e3 : w1.cell? ⟨wr.heap.size, 3, none⟩ = some (.int .i64 x.dn) := cell_to (by simp [go_sem]) hb1
          have e4 : w1.cell? ⟨wr.heap.size, 4, none⟩ = some (.int .i64 x.proto) := cell_to (by simp [go_sem]) hb1
          have e5 : w1.cell? ⟨wr.heap.size, 5, none⟩ = some (.int .i64 x.lo) := cell_to (by simp [go_sem]) hb1
          have e6 : w1.cell? ⟨wr.heap.size, 6, none⟩ = some (.int .i64 x.hi) := cell_to (by simp [go_sem]) hb1
          have e7 : w1.cell? ⟨wr.heap.size, 7, none⟩ = some (.bool x.allow) := cell_to (by simp [go_sem]) hb1
          have HO3 := hid (own_to (HO2.out.alloc (Obj.cells #[.int .i64 x.sb, .int .i64 x.sn, .int .i64 x.db, .int .i64 x.dn, .int .i64 x.proto, .int .i64 x.lo, .int .i64 x.hi, .bool x.allow] 49)) hb1)
          have hW1 : Below W.heap.size W w1 := (HBW.out.alloc HBW.out.size _).trans (hb1.mono (by have := HBW.out.size; simp; omega))
          clear hc1 hf1 hz1
          go_wp2_with (at_builtin; refine wpList_append_own _ rfl _ _ 40 rfl W.heap.size 49 i0 _ 8 64 Tryz.underlying40 hi iz0 iz1 iz2 rfl (by decide) _ _ _ rfl (HO3.out.alloc _) ⟨w1.heap.size, 0, none⟩ 1 1 [.int .i64 x.sb, .int .i64 x.sn, .int .i64 x.db, .int .i64 x.dn, .int .i64 x.proto, .int .i64 x.lo, .int .i64 x.hi, .bool x.allow] rfl rfl (cell_new_list _ [.int .i64 x.sb, .int .i64 x.sn, .int .i64 x.db, .int .i64 x.dn, .int .i64 x.proto, .int .i64 x.lo, .int .i64 x.hi, .bool x.allow] _) (fun u hu => by simp at hu; rcases hu with rfl | rfl | rfl | rfl | rfl | rfl | rfl | rfl <;> rfl) (by unfold maxLen; omega) (by omega) (by have := hW1.size; simp; omega) ?_; intro v' w3 hown' hg3 hn3)
          exact ⟨⟨k + 1, I ++ [y] ++ [x], by omega, by go_num, own_snoc (enc := encRow) (by simpa [encRow] using hown'), mem_take_snoc HX.out _ HL.out, by simp; omega, own_below (hW1.alloc hW1.size _) (by have := hW1.size; simp; omega) (HO3.out.alloc _) hg3⟩, by simp [intOf]; omega⟩
    · go_wp2
      have he : l.take k = l := List.take_of_length_le (by omega)
      have hL := HL.out
      rw [he] at hL
      go_ret
      exact ⟨⟨_, L, rfl, own_le HO2.out hWs, fun r => (hL r).trans HP.out.mem_iff, by rw [← HLL.out]; omega⟩, HB.out⟩
end Go.Proofs.YtmkjlhplgcifiaaGreat
