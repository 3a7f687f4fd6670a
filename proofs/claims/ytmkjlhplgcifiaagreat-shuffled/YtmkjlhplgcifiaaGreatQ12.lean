/-
  row.Once: each row but once.
  policy.Gaps: what a policy lets go, by blocks and ports (In).
  Rules and policies: what fits, what applies, what is let go.
  palisade.Right: the whole of P3.
-/
import Derived.Test.YtmkjlhplgcifiaaGreatQ11
import Derived.Test.YtmkjlhplgcifiaaGreatQ10
import Derived.Test.YtmkjlhplgcifiaaGreatQ08
namespace Go.Proofs.YtmkjlhplgcifiaaGreat
open Go.ChangeShapes Go.WideShapes Go.ChangeAt Go.RowKit
attribute [local simp] World.cell?_grow
attribute [local go_sem] World.cell?_grow
attribute [local simp] World.cell?_alloc_there
attribute [local go_sem] World.cell?_alloc_there
attribute [local go_sem] eqg_blk std_blk eqg_pod std_pod eqg_sel std_sel eqg_prt std_prt
attribute [local go_sem ↓] eql_blk eql_sel neq_sel eql_prt eql_pod
attribute [local go_sem ↓] met_in1 met_in2 met_re1 met_re2
attribute [local go_sem ↓] met_has1 met_has2
attribute [local go_sem ↓] met_bl1 met_bl2
attribute [local go_sem] eqg_row std_row
attribute [local go_sem ↓] neq_row
set_option linter.unusedVariables false
set_option linter.unusedSimpArgs false

theorem mem_take_snoc {l : List DRow} {k : Nat} {x : DRow} (h : l[k]? = some x) (L : List DRow) (hL : ∀ r, r ∈ L ↔ r ∈ l.take k) : ∀ r, r ∈ L ++ [x] ↔ r ∈ l.take (k + 1) := fun r => by
  rw [List.take_add_one, h, List.mem_append, hL r]; simp
theorem mem_take_same {l : List DRow} {k : Nat} {x : DRow} (h : l[k]? = some x) (L : List DRow) (hL : ∀ r, r ∈ L ↔ r ∈ l.take k) (hx : x ∈ L) : ∀ r, r ∈ L ↔ r ∈ l.take (k + 1) := fun r => by
  rw [List.take_add_one, h, List.mem_append, ← hL r]
  constructor
  · exact .inl
  · rintro (h | h)
    · exact h
    · simp at h; subst h; exact hx

theorem ix_ne0 (n : Nat) : (((n : Int) + 1) == 0) = false := by
  have h : ¬ ((n : Int) + 1 = 0) := by omega
  simp [h]
theorem ix_wrap (n : Nat) (h : n ≤ 140737488351232) : IntKind.i64.wrap (n : Int) = (n : Int) := by rw [IntKind.wrap_i64]; omega
theorem ix_lt (n : Nat) : (n : Int) < (n : Int) + 1 := by omega
theorem ix_nn (n : Nat) : (0 : Int) ≤ (n : Int) := by omega

set_option maxRecDepth 100000 in
set_option maxHeartbeats 800000 in
theorem once_any (a : Option Addr) (cap : Nat) (zs : List DRow) (w : World) (hz : rdRows w.heap.size w a zs) :
    Calls Tryz.prog 135 #[.slice a zs.length cap] w fun e w' => (∃ (v : Value) (L : List DRow), e = .returned v ∧ w'.ownsRow w.heap.size 49 8 v L.length (L.flatMap encRow) ∧ (∀ r, r ∈ L ↔ r ∈ zs) ∧ L.length ≤ zs.length) ∧ Below w.heap.size w w' := by
  have HZ := hid hz
  have hlen := hz.1
  clear hz
  obtain ⟨i0, hi, iz0, iz1, iz2⟩ := info_parts info_row
  go_enter Tryz.func135, Tryz.ntmps135
  go_wp2_with (first
    | (go_at_call 164; refine (rvalues_any _ _ _ _).mono ?_; rintro e w1 ⟨rfl, rfl⟩)
    | (go_at_call 163; refine (sortedFunc_any a cap _ zs _ (by simp [go_sem]) (rdRows.to HZ.out (by repeat (first | exact Below.refl _ _ | assumption | apply Ext.alloc | apply Ext.drewN | apply Ext.drew | refine Ext.trans ?_ (by assumption))))).mono ?_; rintro e W ⟨⟨sa, sc, l, rfl, hp, hr⟩, hb⟩; have HP := hid hp; have HR := hid hr.2; have HLL := hid hp.length_eq; clear hp hr))
  have hBW : Below w.heap.size w W := (by repeat (first | exact Below.refl _ _ | assumption | apply Ext.alloc | apply Ext.drewN | apply Ext.drew | refine Ext.trans ?_ (by assumption)))
  have HBa := hid hBW
  have hWs := hBW.size
  clear hb hBW
  have hlen2 : l.length * 64 ≤ 140737488351232 := by rw [HLL.out]; exact hlen
  go_loopw [3, 10] (fun kv i wr => ∃ (k : Nat) (L : List DRow), k ≤ l.length ∧ i = .int .i64 k ∧ wr.ownsRow W.heap.size 49 8 kv L.length (L.flatMap encRow) ∧ (∀ r, r ∈ L ↔ r ∈ l.take k) ∧ L.length ≤ k ∧ Below W.heap.size W wr) (fun _ i _ => l.length - (intOf i).toNat)
  case atStart => exact ⟨0, [], Nat.zero_le _, rfl, World.ownsRow_nil _ _ _ _, fun r => by simp, Nat.le_refl _, Below.refl _ _⟩
  case round =>
    obtain ⟨k, L, hk, rfl, hown, hL, hLk, hbw⟩ := hrel
    have HO2 := hid hown
    have HL := hid hL
    have HBW := hid hbw
    have HB := hid (show Below w.heap.size w wr from HBa.out.trans (hbw.mono hWs))
    clear hL
    by_cases hlt : k < l.length
    · obtain ⟨x, hxk⟩ : ∃ x, l[k]? = some x := ⟨l[k], by simp [hlt]⟩
      have HX := hid hxk
      clear hxk
      obtain ⟨b, off, rfl, hb, c0, c1, c2, c3, c4, c5, c6, c7⟩ := HR.out k x HX.out
      have d0 := cell_to c0 hbw
      have d1 := cell_to c1 hbw
      have d2 := cell_to c2 hbw
      have d3 := cell_to c3 hbw
      have d4 := cell_to c4 hbw
      have d5 := cell_to c5 hbw
      have d6 := cell_to c6 hbw
      have d7 := cell_to c7 hbw
      clear c0 c1 c2 c3 c4 c5 c6 c7
      rcases List.eq_nil_or_concat L with hn | ⟨I, y, hy⟩
      · subst hn
        obtain ⟨va, vc, rfl, _, _⟩ := own_slice hown
        have HN := hid (show (0 : Nat) = 0 from rfl)
        clear hown
        simp only [List.length_nil] at HO2
        go_wp2
        refine wp_region_grow (by kernel_rfl) (by kernel_rfl) ?_
        repeat (go_big_quiet_step (fail))
        refine wpQuiet_nil ?_
        intro w1 hb1
        obtain ⟨hc1, hf1⟩ := bcell hb1
        have hz1 := hb_lt hb1
        have e0 : w1.cell? ⟨wr.heap.size, 0, none⟩ = some (.int .i64 x.sb) := cell_to (by simp [go_sem]) hb1
        have e1 : w1.cell? ⟨wr.heap.size, 1, none⟩ = some (.int .i64 x.sn) := cell_to (by simp [go_sem]) hb1
        have e2 : w1.cell? ⟨wr.heap.size, 2, none⟩ = some (.int .i64 x.db) := cell_to (by simp [go_sem]) hb1
        have e3 : w1.cell? ⟨wr.heap.size, 3, none⟩ = some (.int .i64 x.dn) := cell_to (by simp [go_sem]) hb1
        have e4 : w1.cell? ⟨wr.heap.size, 4, none⟩ = some (.int .i64 x.proto) := cell_to (by simp [go_sem]) hb1
        have e5 : w1.cell? ⟨wr.heap.size, 5, none⟩ = some (.int .i64 x.lo) := cell_to (by simp [go_sem]) hb1
        have e6 : w1.cell? ⟨wr.heap.size, 6, none⟩ = some (.int .i64 x.hi) := cell_to (by simp [go_sem]) hb1
        have e7 : w1.cell? ⟨wr.heap.size, 7, none⟩ = some (.bool x.allow) := cell_to (by simp [go_sem]) hb1
        have HO3 := hid (own_to (HO2.out.alloc (Obj.cells #[.int .i64 x.sb, .int .i64 x.sn, .int .i64 x.db, .int .i64 x.dn, .int .i64 x.proto, .int .i64 x.lo, .int .i64 x.hi, .bool x.allow] 49)) hb1)
        have hW1 : Below W.heap.size W w1 := (HBW.out.alloc HBW.out.size _).trans (hb1.mono (by have := HBW.out.size; simp; omega))
        clear hc1 hf1 hz1
        go_wp2_with (at_builtin; refine wpList_append_own _ rfl _ _ 40 rfl W.heap.size 49 i0 _ 8 64 Tryz.underlying40 hi iz0 iz1 iz2 rfl (by decide) _ _ _ rfl (HO3.out.alloc _) ⟨w1.heap.size, 0, none⟩ 1 1 [.int .i64 x.sb, .int .i64 x.sn, .int .i64 x.db, .int .i64 x.dn, .int .i64 x.proto, .int .i64 x.lo, .int .i64 x.hi, .bool x.allow] rfl rfl (cell_new_list _ [.int .i64 x.sb, .int .i64 x.sn, .int .i64 x.db, .int .i64 x.dn, .int .i64 x.proto, .int .i64 x.lo, .int .i64 x.hi, .bool x.allow] _) (fun u hu => by simp at hu; rcases hu with rfl | rfl | rfl | rfl | rfl | rfl | rfl | rfl <;> rfl) (by unfold maxLen; omega) (by omega) (by have := hW1.size; simp; omega) ?_; intro v' w3 hown' hg3 hn3)
        exact ⟨⟨k + 1, [x], by omega, by go_num, by simpa [encRow] using hown', mem_take_snoc HX.out [] HL.out, by simp, own_below (hW1.alloc hW1.size _) (by have := hW1.size; simp; omega) (HO3.out.alloc _) hg3⟩, by simp [intOf]; omega⟩
      · rw [List.concat_eq_append] at hy
        subst hy
        have hIl : (I ++ [y]).length = I.length + 1 := by simp
        obtain ⟨va, vc, rfl, _, _⟩ := own_slice hown
        obtain ⟨g, go, rfl, _, hg2, hyc⟩ := own_at (k := 8) encRow_len (by decide) hown I.length y (by simp)
        rw [hIl] at hLk HO2
        have z0 : (wr.alloc (Obj.cells #[.int .i64 x.sb, .int .i64 x.sn, .int .i64 x.db, .int .i64 x.dn, .int .i64 x.proto, .int .i64 x.lo, .int .i64 x.hi, .bool x.allow] 49)).cell? ⟨g, go + I.length * 8, none⟩ = some (.int .i64 y.sb) := cell_past (hyc 0 _ rfl)
        have z1 : (wr.alloc (Obj.cells #[.int .i64 x.sb, .int .i64 x.sn, .int .i64 x.db, .int .i64 x.dn, .int .i64 x.proto, .int .i64 x.lo, .int .i64 x.hi, .bool x.allow] 49)).cell? ⟨g, go + I.length * 8 + 1, none⟩ = some (.int .i64 y.sn) := cell_past (hyc 1 _ rfl)
        have z2 : (wr.alloc (Obj.cells #[.int .i64 x.sb, .int .i64 x.sn, .int .i64 x.db, .int .i64 x.dn, .int .i64 x.proto, .int .i64 x.lo, .int .i64 x.hi, .bool x.allow] 49)).cell? ⟨g, go + I.length * 8 + 2, none⟩ = some (.int .i64 y.db) := cell_past (hyc 2 _ rfl)
        have z3 : (wr.alloc (Obj.cells #[.int .i64 x.sb, .int .i64 x.sn, .int .i64 x.db, .int .i64 x.dn, .int .i64 x.proto, .int .i64 x.lo, .int .i64 x.hi, .bool x.allow] 49)).cell? ⟨g, go + I.length * 8 + 3, none⟩ = some (.int .i64 y.dn) := cell_past (hyc 3 _ rfl)
        have z4 : (wr.alloc (Obj.cells #[.int .i64 x.sb, .int .i64 x.sn, .int .i64 x.db, .int .i64 x.dn, .int .i64 x.proto, .int .i64 x.lo, .int .i64 x.hi, .bool x.allow] 49)).cell? ⟨g, go + I.length * 8 + 4, none⟩ = some (.int .i64 y.proto) := cell_past (hyc 4 _ rfl)
        have z5 : (wr.alloc (Obj.cells #[.int .i64 x.sb, .int .i64 x.sn, .int .i64 x.db, .int .i64 x.dn, .int .i64 x.proto, .int .i64 x.lo, .int .i64 x.hi, .bool x.allow] 49)).cell? ⟨g, go + I.length * 8 + 5, none⟩ = some (.int .i64 y.lo) := cell_past (hyc 5 _ rfl)
        have z6 : (wr.alloc (Obj.cells #[.int .i64 x.sb, .int .i64 x.sn, .int .i64 x.db, .int .i64 x.dn, .int .i64 x.proto, .int .i64 x.lo, .int .i64 x.hi, .bool x.allow] 49)).cell? ⟨g, go + I.length * 8 + 6, none⟩ = some (.int .i64 y.hi) := cell_past (hyc 6 _ rfl)
        have z7 : (wr.alloc (Obj.cells #[.int .i64 x.sb, .int .i64 x.sn, .int .i64 x.db, .int .i64 x.dn, .int .i64 x.proto, .int .i64 x.lo, .int .i64 x.hi, .bool x.allow] 49)).cell? ⟨g, go + I.length * 8 + 7, none⟩ = some (.bool y.allow) := cell_past (hyc 7 _ rfl)
        clear hyc hown
        have hq0 := ix_ne0 I.length
        have hq1 := ix_wrap I.length (by omega)
        have hq3 := ix_lt I.length
        have hq4 := ix_nn I.length
        simp only [hIl]
        cases hx : rowNe y x
        · have HEQ := hid (rowNe_false hx)
          go_wp2
          refine wp_region_grow (by kernel_rfl) (by kernel_rfl) ?_
          repeat (go_big_quiet_step (fail))
          refine wpQuiet_nil ?_
          intro w1 hb1
          obtain ⟨hc1, hf1⟩ := bcell hb1
          have hz1 := hb_lt hb1
          have e0 : w1.cell? ⟨wr.heap.size, 0, none⟩ = some (.int .i64 x.sb) := cell_to (by simp [go_sem]) hb1
          have e1 : w1.cell? ⟨wr.heap.size, 1, none⟩ = some (.int .i64 x.sn) := cell_to (by simp [go_sem]) hb1
          have e2 : w1.cell? ⟨wr.heap.size, 2, none⟩ = some (.int .i64 x.db) := cell_to (by simp [go_sem]) hb1
          have e3 : w1.cell? ⟨wr.heap.size, 3, none⟩ = some (.int .i64 x.dn) := cell_to (by simp [go_sem]) hb1
          have e4 : w1.cell? ⟨wr.heap.size, 4, none⟩ = some (.int .i64 x.proto) := cell_to (by simp [go_sem]) hb1
          have e5 : w1.cell? ⟨wr.heap.size, 5, none⟩ = some (.int .i64 x.lo) := cell_to (by simp [go_sem]) hb1
          have e6 : w1.cell? ⟨wr.heap.size, 6, none⟩ = some (.int .i64 x.hi) := cell_to (by simp [go_sem]) hb1
          have e7 : w1.cell? ⟨wr.heap.size, 7, none⟩ = some (.bool x.allow) := cell_to (by simp [go_sem]) hb1
          have HO3 := hid (own_to (HO2.out.alloc (Obj.cells #[.int .i64 x.sb, .int .i64 x.sn, .int .i64 x.db, .int .i64 x.dn, .int .i64 x.proto, .int .i64 x.lo, .int .i64 x.hi, .bool x.allow] 49)) hb1)
          have hW1 : Below W.heap.size W w1 := (HBW.out.alloc HBW.out.size _).trans (hb1.mono (by have := HBW.out.size; simp; omega))
          clear hc1 hf1 hz1
          go_wp2
          exact ⟨⟨k + 1, I ++ [y], by omega, by go_num, by rw [hIl]; simpa using HO3.out, mem_take_same HX.out _ HL.out (by rw [← HEQ.out]; simp), by rw [hIl]; omega, hW1⟩, by simp [intOf]; omega⟩
        · go_wp2
          refine wp_region_grow (by kernel_rfl) (by kernel_rfl) ?_
          repeat (go_big_quiet_step (fail))
          refine wpQuiet_nil ?_
          intro w1 hb1
          obtain ⟨hc1, hf1⟩ := bcell hb1
          have hz1 := hb_lt hb1
          have e0 : w1.cell? ⟨wr.heap.size, 0, none⟩ = some (.int .i64 x.sb) := cell_to (by simp [go_sem]) hb1
          have e1 : w1.cell? ⟨wr.heap.size, 1, none⟩ = some (.int .i64 x.sn) := cell_to (by simp [go_sem]) hb1
          have e2 : w1.cell? ⟨wr.heap.size, 2, none⟩ = some (.int .i64 x.db) := cell_to (by simp [go_sem]) hb1
          have e3 : w1.cell? ⟨wr.heap.size, 3, none⟩ = some (.int .i64 x.dn) := cell_to (by simp [go_sem]) hb1
          have e4 : w1.cell? ⟨wr.heap.size, 4, none⟩ = some (.int .i64 x.proto) := cell_to (by simp [go_sem]) hb1
          have e5 : w1.cell? ⟨wr.heap.size, 5, none⟩ = some (.int .i64 x.lo) := cell_to (by simp [go_sem]) hb1
          have e6 : w1.cell? ⟨wr.heap.size, 6, none⟩ = some (.int .i64 x.hi) := cell_to (by simp [go_sem]) hb1
          have e7 : w1.cell? ⟨wr.heap.size, 7, none⟩ = some (.bool x.allow) := cell_to (by simp [go_sem]) hb1
          have HO3 := hid (own_to (HO2.out.alloc (Obj.cells #[.int .i64 x.sb, .int .i64 x.sn, .int .i64 x.db, .int .i64 x.dn, .int .i64 x.proto, .int .i64 x.lo, .int .i64 x.hi, .bool x.allow] 49)) hb1)
          have hW1 : Below W.heap.size W w1 := (HBW.out.alloc HBW.out.size _).trans (hb1.mono (by have := HBW.out.size; simp; omega))
          clear hc1 hf1 hz1
          go_wp2_with (at_builtin; refine wpList_append_own _ rfl _ _ 40 rfl W.heap.size 49 i0 _ 8 64 Tryz.underlying40 hi iz0 iz1 iz2 rfl (by decide) _ _ _ rfl (HO3.out.alloc _) ⟨w1.heap.size, 0, none⟩ 1 1 [.int .i64 x.sb, .int .i64 x.sn, .int .i64 x.db, .int .i64 x.dn, .int .i64 x.proto, .int .i64 x.lo, .int .i64 x.hi, .bool x.allow] rfl rfl (cell_new_list _ [.int .i64 x.sb, .int .i64 x.sn, .int .i64 x.db, .int .i64 x.dn, .int .i64 x.proto, .int .i64 x.lo, .int .i64 x.hi, .bool x.allow] _) (fun u hu => by simp at hu; rcases hu with rfl | rfl | rfl | rfl | rfl | rfl | rfl | rfl <;> rfl) (by unfold maxLen; omega) (by omega) (by have := hW1.size; simp; omega) ?_; intro v' w3 hown' hg3 hn3)
          exact ⟨⟨k + 1, I ++ [y] ++ [x], by omega, by go_num, own_snoc (enc := encRow) (by simpa [encRow] using hown'), mem_take_snoc HX.out _ HL.out, by simp; omega, own_below (hW1.alloc hW1.size _) (by have := hW1.size; simp; omega) (HO3.out.alloc _) hg3⟩, by simp [intOf]; omega⟩
    · go_wp2
      have he : l.take k = l := List.take_of_length_le (by omega)
      have hL := HL.out
      rw [he] at hL
      go_ret
      exact ⟨⟨_, L, rfl, own_le HO2.out hWs, fun r => (hL r).trans HP.out.mem_iff, by rw [← HLL.out]; omega⟩, HB.out⟩
end Go.Proofs.YtmkjlhplgcifiaaGreat
namespace Go.Proofs.YtmkjlhplgcifiaaGreat
open Go.ChangeShapes Go.WideShapes Go.ChangeAt Go.RowKit
attribute [local simp] World.cell?_grow
attribute [local go_sem] World.cell?_grow
attribute [local simp] World.cell?_alloc_there
attribute [local go_sem] World.cell?_alloc_there
attribute [local go_sem] eqg_blk std_blk eqg_pod std_pod eqg_sel std_sel eqg_prt std_prt
attribute [local go_sem ↓] eql_blk eql_sel neq_sel eql_prt eql_pod
attribute [local go_sem ↓] met_in1 met_in2 met_re1 met_re2
attribute [local go_sem ↓] met_has1 met_has2
attribute [local go_sem ↓] met_bl1 met_bl2
set_option linter.unusedVariables false
set_option linter.unusedSimpArgs false

set_option maxRecDepth 100000 in
set_option maxHeartbeats 4000000 in
theorem gaps_in (q : DPol) (oa ia : Option Addr) (oc ic : Nat) (sa : Option Addr) (pods : List DPod) (sc : Nat) (w : World) (hr : rdRules w.heap.size w ia q.ins) (hd : rdPods w.heap.size w sa pods) (ho : podsOk pods) (hpl : pods.length ≤ 8) (hq : polOk q = true) :
    Calls Tryz.prog 134 #[.agg #[.int .i64 q.space, .int .i64 q.need, .int .i64 q.ban, .int .i64 q.ways, .slice oa q.outs.length oc, .slice ia q.ins.length ic], .int .i64 2, .slice sa pods.length sc] w
      fun e w' => (∃ v, e = .returned v ∧ w'.ownsRow w.heap.size 187 5 v (gapsOf pods 2 q).length ((gapsOf pods 2 q).flatMap encGap)) ∧ Below w.heap.size w w' := by
  have HF := hid (show gapsOf pods 2 q = q.ins.flatMap (rgaps pods q.space) from rfl)
  have HR := hid hr
  have HD := hid hd
  have HO := hid ho
  have HQ := hid (polOk_ins hq)
  have hrl := polOk_ins_len hq
  have hlen := hr.1
  have h0 := (btw_true.1 (polOk_space hq)).1
  have h1 := (btw_true.1 (polOk_space hq)).2
  rw [HF.out]
  clear hr hd ho hq
  obtain ⟨i0, hi, iz0, iz1, iz2⟩ := info_parts info_gap
  go_enter Tryz.func134, Tryz.ntmps134
  go_wp2_with (go_at_call 127; refine (rules_in q _ _ _ _ _).mono ?_; rintro e w1 ⟨rfl, hb1⟩; obtain ⟨hc1, hf1⟩ := bcell hb1; have hz1 := hb_lt hb1)
  have hBa : Below w.heap.size w w1 := (by repeat (first | exact Below.refl _ _ | assumption | apply Ext.alloc | apply Ext.drewN | apply Ext.drew | refine Ext.trans ?_ (by assumption)))
  have s0 : w1.cell? ⟨w.heap.size + 1, 0, none⟩ = some (.int .i64 q.space) := cell_to (by simp [go_sem]) hb1
  have s1 : w1.cell? ⟨w.heap.size + 1, 1, none⟩ = some (.slice sa pods.length sc) := cell_to (by simp [go_sem]) hb1
  have HBa := hid hBa
  have hWs := hBa.size
  clear hBa hb1 hc1 hf1 hz1
  go_loopw [8, 23] (fun kv i wr => ∃ k : Nat, k ≤ q.ins.length ∧ i = .int .i64 k ∧ wr.ownsRow w1.heap.size 187 5 kv ((q.ins.take k).flatMap (rgaps pods q.space)).length (((q.ins.take k).flatMap (rgaps pods q.space)).flatMap encGap) ∧ Below w1.heap.size w1 wr) (fun _ i _ => q.ins.length - (intOf i).toNat)
  case atStart => exact ⟨0, Nat.zero_le _, rfl, World.ownsRow_nil _ _ _ _, Below.refl _ _⟩
  case round =>
    obtain ⟨k, hk, rfl, hown, hbw⟩ := hrel
    obtain ⟨kv0, hkv⟩ : ∃ v, v = u8 := ⟨_, rfl⟩
    obtain ⟨wa, hwa⟩ : ∃ wa, wa = wr := ⟨_, rfl⟩
    subst hkv hwa
    have HO2 := hid hown
    have HBW := hid hbw
    have HB := hid (show Below w.heap.size w wa from HBa.out.trans (hbw.mono hWs))
    have hwa := hbw.size
    clear hown
    by_cases hlt : k < q.ins.length
    · obtain ⟨r, hxk⟩ : ∃ r, q.ins[k]? = some r := ⟨q.ins[k], by simp [hlt]⟩
      have HX := hid hxk
      have hro := HQ.out r (List.mem_of_getElem? hxk)
      have HRO := hid hro
      have HT := hid (take_flat (f := rgaps pods q.space) hxk)
      have hP := gaps_pre (pods := pods) (space := q.space) HQ.out hpl k
      have hfl := dfars_le (space := q.space) hro hpl
      have hpo := dports_le hro
      clear hxk hro
      obtain ⟨b, off, rfl, hb, ⟨pa, pc, c0, hrp⟩, qa, qc, c1, hrq⟩ := HR.out.2 k r HX.out
      have d0 := cell_to c0 HB.out
      have d1 := cell_to c1 HB.out
      have t0 := cell_to s0 hbw
      have t1 := cell_to s1 hbw
      have HRP := hid hrp
      have HRQ := hid hrq
      clear hrp hrq c0 c1
      go_wp2_with (go_at_call 161; refine (fars_any r _ _ _ _ _ _ pods _ _ (rdPeers.ext (HB.out.alloc HB.out.size _) (by have := HB.out.size; simp; omega) HRP.out) (rdPods.ext (HB.out.alloc HB.out.size _) (by have := HB.out.size; simp; omega) HD.out) HO.out hpl HRO.out h0 h1).mono ?_; rintro e w2 ⟨⟨v2, rfl, ho2⟩, hb2⟩; obtain ⟨fa, fc, rfl, _, hfr⟩ := own_slice ho2; have HO3 := hid ho2; have HFR := hid hfr; have HK := hid (own_to (HO2.out.alloc (.cells #[.slice pa r.peers.length pc, .slice qa r.ports.length qc] 64)) hb2); have b0 : w2.cell? ⟨wa.heap.size, 0, none⟩ = some (.slice pa r.peers.length pc) := cell_to (by simp [go_sem]) hb2; have b1 : w2.cell? ⟨wa.heap.size, 1, none⟩ = some (.slice qa r.ports.length qc) := cell_to (by simp [go_sem]) hb2; have hs2 := hb2.size; have HB2 := hid (show Below wa.heap.size wa w2 from ((Below.refl _ wa).alloc (Nat.le_refl _) _).trans (hb2.mono (by simp))); clear ho2 hfr hb2)
      simp only [World.size_alloc] at hs2 HO3 HFR
      have HB3 := hid (show Below w.heap.size w w2 from HB.out.trans (HB2.out.mono (by have := HB.out.size; omega)))
      clear d0 d1 t0 t1
      -- the far ends
      go_loopw [8, 31] (fun kv i wq => ∃ j : Nat, j ≤ (dfars pods q.space r).length ∧ i = .int .i64 j ∧ wq.ownsRow w1.heap.size 187 5 kv (((q.ins.take k).flatMap (rgaps pods q.space)) ++ ((dfars pods q.space r).take j).flatMap (fgaps r)).length ((((q.ins.take k).flatMap (rgaps pods q.space)) ++ ((dfars pods q.space r).take j).flatMap (fgaps r)).flatMap encGap) ∧ Inv w2 kv0 wq kv) (fun _ i _ => (dfars pods q.space r).length - (intOf i).toNat)
      case atStart => exact ⟨0, Nat.zero_le _, rfl, by simpa using HK.out, Inv.refl _ _⟩
      case round =>
        obtain ⟨j, hj, rfl, hown2, hinv⟩ := hrel
        obtain ⟨kvb, hkv⟩ : ∃ v, v = u8 := ⟨_, rfl⟩
        obtain ⟨wb, hwb⟩ : ∃ wb, wb = wr := ⟨_, rfl⟩
        subst hkv hwb
        have HO4 := hid hown2
        have HI := hid hinv
        have hlow := hinv.low HO2.out (show w1.heap.size ≤ w2.heap.size by omega)
        have HBb := hid (show Below w.heap.size w wb from HB3.out.trans (hlow.mono hWs))
        have HBL := hid hlow
        have hwbs := hinv.gr.size
        have g0 := hinv.cell (own_ne HO2.out (.inr (Nat.le_refl _))) b0
        have g1 := hinv.cell (own_ne HO2.out (.inr (Nat.le_refl _))) b1
        have hjl := flatMap_le (f := fgaps r) (m := 2) ((dfars pods q.space r).take j) (fun f _ => fgaps_le HRO.out f)
        rw [List.length_take] at hjl
        clear hown2 hlow
        by_cases hlt2 : j < (dfars pods q.space r).length
        · obtain ⟨f, hfj⟩ : ∃ f, (dfars pods q.space r)[j]? = some f := ⟨(dfars pods q.space r)[j], by simp [hlt2]⟩
          have HFJ := hid hfj
          have HTF := hid (take_flat (f := fgaps r) hfj)
          obtain ⟨gf, fo, rfl, hgf, hgf2, hfc⟩ := own_at (k := 2) (fun _ => rfl) (by decide) HO3.out j f hfj
          have f0 : wb.cell? ⟨gf, fo + j * 2, none⟩ = some (.int .i64 f.base) := hinv.cell (own_ne HO2.out (.inr (show wa.heap.size ≤ gf by omega))) (hfc 0 _ rfl)
          have f1 : wb.cell? ⟨gf, fo + j * 2 + 1, none⟩ = some (.int .i64 f.bits) := hinv.cell (own_ne HO2.out (.inr (show wa.heap.size ≤ gf by omega))) (hfc 1 _ rfl)
          clear hfj hfc hinv
          go_wp2_with (go_at_call 162; refine (ports_any r _ _ _ _ w.heap.size _ (rdPorts.ext (HBb.out.alloc HBb.out.size _) (Nat.le_refl _) HRQ.out) (by have := HBb.out.size; simp; omega)).mono ?_; rintro e w3 ⟨⟨ap, cp, rfl, hps⟩, hb3⟩; have HPS := hid hps; have HK3 := hid (own_to (HO4.out.alloc (.cells #[.int .i64 f.base, .int .i64 f.bits] 47)) hb3); have e0 : w3.cell? ⟨wb.heap.size, 0, none⟩ = some (.int .i64 f.base) := cell_to (by simp [go_sem]) hb3; have e1 : w3.cell? ⟨wb.heap.size, 1, none⟩ = some (.int .i64 f.bits) := cell_to (by simp [go_sem]) hb3; have hs3 := hb3.size; have HI3 := hid ((HI.out.ext ((Below.refl _ wb).alloc (Nat.le_refl _) (.cells #[.int .i64 f.base, .int .i64 f.bits] 47))).ext hb3); clear hps hb3)
          simp only [World.size_alloc] at hs3
          have hpl2 := HPS.out.1
          clear g0 g1 f0 f1
          -- the ports
          go_loopw [8, 38] (fun kv i wc => ∃ t : Nat, t ≤ (dports r).length ∧ i = .int .i64 t ∧ wc.ownsRow w1.heap.size 187 5 kv (((q.ins.take k).flatMap (rgaps pods q.space) ++ ((dfars pods q.space r).take j).flatMap (fgaps r)) ++ ((dports r).take t).map fun p => (⟨f, p⟩ : DGap)).length ((((q.ins.take k).flatMap (rgaps pods q.space) ++ ((dfars pods q.space r).take j).flatMap (fgaps r)) ++ ((dports r).take t).map fun p => (⟨f, p⟩ : DGap)).flatMap encGap) ∧ Inv w3 kvb wc kv) (fun _ i _ => (dports r).length - (intOf i).toNat)
          case atStart => exact ⟨0, Nat.zero_le _, rfl, by simpa using HK3.out, Inv.refl _ _⟩
          case round =>
            obtain ⟨t, ht, rfl, hown5, hinv5⟩ := hrel
            have HO5 := hid hown5
            have HI5 := hid hinv5
            have hwr5 := hinv5.gr.size
            have i0' := hinv5.cell (own_ne HO4.out (.inr (Nat.le_refl _))) e0
            have i1' := hinv5.cell (own_ne HO4.out (.inr (Nat.le_refl _))) e1
            have hbase5 : w1.heap.size ≤ wr.heap.size := by omega
            clear hown5
            by_cases hlt3 : t < (dports r).length
            · obtain ⟨y, hyt⟩ : ∃ y, (dports r)[t]? = some y := ⟨(dports r)[t], by simp [hlt3]⟩
              have HY := hid hyt
              obtain ⟨bp, op, rfl, hbp, _, q0, q1, q2⟩ := HPS.out.2 t y hyt
              have hbp' : bp < w1.heap.size ∨ wb.heap.size ≤ bp := by
                rcases hbp with h | h
                · exact .inl (by omega)
                · simp only [World.size_alloc] at h; exact .inr (by omega)
              have y0 := hinv5.cell (own_ne HO4.out hbp') q0
              have y1 := hinv5.cell (own_ne HO4.out hbp') q1
              have y2 := hinv5.cell (own_ne HO4.out hbp') q2
              clear hyt q0 q1 q2 hinv5
              go_wp2_with (at_builtin; refine wpList_append_own_at _ rfl _ _ 184 rfl w1.heap.size 187 i0 _ 5 40 Tryz.underlying184 hi iz0 iz1 iz2 rfl (by decide) _ _ _ rfl ((HO5.out.alloc _).alloc _) ⟨wr.heap.size + 1, 0, none⟩ 1 1 [.int .i64 f.base, .int .i64 f.bits, .int .i64 y.proto, .int .i64 y.lo, .int .i64 y.hi] rfl rfl (cell_new_list2 _ _ [.int .i64 f.base, .int .i64 f.bits, .int .i64 y.proto, .int .i64 y.lo, .int .i64 y.hi] _) (fun u hu => by simp at hu; rcases hu with rfl | rfl | rfl | rfl | rfl <;> rfl) (by have := gap_sum hlt hrl hP hjl hfl (S := ((dports r).take t).map fun p => (⟨f, p⟩ : DGap)) (t := t) (by rw [List.length_map, List.length_take]) hpo; unfold maxLen; omega) (by have := gap_sum hlt hrl hP hjl hfl (S := ((dports r).take t).map fun p => (⟨f, p⟩ : DGap)) (t := t) (by rw [List.length_map, List.length_take]) hpo; omega) (by simp; omega) ?_; intro v' w4 hown' hg4 _ hat4)
              refine ⟨⟨t + 1, by omega, by go_num, ?_, ?_⟩, by simp [intOf]; omega⟩
              · rw [List.take_add_one, HY.out, Option.toList_some, List.map_append, ← List.append_assoc]; exact own_snoc (enc := encGap) (x := ⟨f, y⟩) hown'
              · exact (HI5.out.ext (((Below.refl _ wr).alloc (Nat.le_refl _) _).alloc (by simp) _)).trans (Inv.app hg4 hat4)
            · go_wp2
              have he : (dports r).take t = dports r := List.take_of_length_le (by omega)
              have ho5 := HO5.out
              rw [he] at ho5
              refine ⟨⟨j + 1, by omega, by go_num, ?_, HI3.out.trans HI5.out⟩, by simp [intOf]; omega⟩
              rw [HTF.out, ← List.append_assoc]; exact ho5
        · go_wp2
          have he : (dfars pods q.space r).take j = dfars pods q.space r := List.take_of_length_le (by omega)
          have ho4 := HO4.out
          rw [he] at ho4
          refine ⟨⟨k + 1, by omega, by go_num, ?_, ?_⟩, by simp [intOf]; omega⟩
          · rw [HT.out]; exact ho4
          · exact HBW.out.trans ((HB2.out.mono hwa).trans HBL.out)
    · go_wp2
      have he : q.ins.take k = q.ins := List.take_of_length_le (by omega)
      have ho := HO2.out
      rw [he] at ho
      go_ret
      exact ⟨⟨_, rfl, own_le ho hWs⟩, HB.out⟩
end Go.Proofs.YtmkjlhplgcifiaaGreat
namespace Go.Proofs.YtmkjlhplgcifiaaGreat
open Go.ChangeShapes Go.WideShapes Go.ChangeAt Go.RowKit
attribute [local simp] World.cell?_grow
attribute [local go_sem] World.cell?_grow
attribute [local go_sem] eqg_blk std_blk eqg_pod std_pod eqg_sel std_sel eqg_prt std_prt
attribute [local go_sem ↓] eql_blk eql_sel neq_sel eql_prt eql_pod
attribute [local go_sem ↓] met_in1 met_in2 met_re1 met_re2
attribute [local go_sem ↓] met_has1 met_has2
set_option linter.unusedVariables false
set_option linter.unusedSimpArgs false

theorem ways_fin : ∀ a : Fin 4, ∀ b : Fin 2, (bits .and .i64 (a.val : Int) ((b.val : Int) + 1) != 0) = hasWay a.val (b.val + 1) := by decide +kernel
theorem ways_eq (ways way : Int) (h0 : 1 ≤ ways) (h1 : ways ≤ 3) (hw : way = 1 ∨ way = 2) : (bits .and .i64 ways way != 0) = hasWay ways way := by
  obtain ⟨a, rfl⟩ := Int.eq_ofNat_of_zero_le (show 0 ≤ ways by omega)
  rcases hw with rfl | rfl
  · exact ways_fin ⟨a, by omega⟩ ⟨0, by omega⟩
  · exact ways_fin ⟨a, by omega⟩ ⟨1, by omega⟩
theorem few_way (l : List DRule) (b : Bool) : few l (if b then 2 else 0) rulOk = rulesOk l b := by
  unfold rulesOk few
  cases b
  · by_cases h : l.length = 0
    · simp [h]
    · have : ¬ ((l.length : Int) ≤ 0) := by omega
      simp [this, h]
  · simp
theorem polOk_most (p : DPol) (h : btw p.ways 1 3 = true) : polOk p = (btw p.space 0 3 && selOk p.need p.ban && few p.outs (most p.ways 1) rulOk && few p.ins (most p.ways 2) rulOk) := by
  have h' := btw_true.1 h
  have e1 : most p.ways 1 = if decide (p.ways % 2 = 1) then 2 else 0 := by
    unfold most
    by_cases h1 : p.ways % 2 = 1
    · rw [if_pos (by omega)]; simp [h1]
    · rw [if_neg (by omega)]; simp [h1]
  have e2 : most p.ways 2 = if decide (p.ways / 2 = 1) then 2 else 0 := by
    unfold most
    by_cases h1 : p.ways / 2 = 1
    · rw [if_pos (by omega)]; simp [h1]
    · rw [if_neg (by omega)]; simp [h1]
  rw [e1, e2, few_way, few_way, polOk, h]
  simp

set_option maxHeartbeats 1000000 in
theorem polRight_any (p : DPol) (oa ia : Option Addr) (oc ic : Nat) (w : World) (ho : rdRules w.heap.size w oa p.outs) (hi : rdRules w.heap.size w ia p.ins) :
    Calls Tryz.prog 91 #[.agg #[.int .i64 p.space, .int .i64 p.need, .int .i64 p.ban, .int .i64 p.ways, .slice oa p.outs.length oc, .slice ia p.ins.length ic]] w fun e w' => e = .returned (.bool (polOk p)) ∧ Below w.heap.size w w' := by
  have HO := hid ho
  have HI := hid hi
  clear ho hi
  have HM := hid (polOk_most p)
  go_enter Tryz.func91, Tryz.ntmps91
  cases hq1 : btw p.space 0 3
  · have HF := hid (show polOk p = false by rw [polOk, hq1]; rfl)
    go_wp2_with (first
      | (go_at_call 118; refine (mostRules_any _ _).mono ?_; rintro e w' ⟨rfl, rfl⟩)
      | (go_at_call 116; refine (space_any _ _).mono ?_; rintro e w' ⟨rfl, rfl⟩))
    go_ret
    exact ⟨ret_bool (by rw [HF.out]), (by repeat (first | exact Below.refl _ _ | assumption | apply Ext.alloc | apply Ext.drewN | apply Ext.drew | refine Ext.trans ?_ (by assumption)))⟩
  cases hq2 : selOk p.need p.ban
  · have HF := hid (show polOk p = false by rw [polOk, hq1, hq2]; rfl)
    go_wp2_with (first
      | (go_at_call 118; refine (mostRules_any _ _).mono ?_; rintro e w' ⟨rfl, rfl⟩)
      | (go_at_call 116; refine (space_any _ _).mono ?_; rintro e w' ⟨rfl, rfl⟩)
      | (go_at_call 119; refine (selRight_any _ _ _).mono ?_; rintro e w1 ⟨rfl, hb1⟩; obtain ⟨hc1, hf1⟩ := bcell hb1; have hz1 := hb_lt hb1))
    go_ret
    exact ⟨ret_bool (by rw [HF.out]), (by repeat (first | exact Below.refl _ _ | assumption | apply Ext.alloc | apply Ext.drewN | apply Ext.drew | refine Ext.trans ?_ (by assumption)))⟩
  cases hq3 : btw p.ways 1 3
  · have HF := hid (show polOk p = false by rw [polOk, hq1, hq2, hq3]; rfl)
    go_wp2_with (first
      | (go_at_call 118; refine (mostRules_any _ _).mono ?_; rintro e w' ⟨rfl, rfl⟩)
      | (go_at_call 116; refine (space_any _ _).mono ?_; rintro e w' ⟨rfl, rfl⟩)
      | (go_at_call 119; refine (selRight_any _ _ _).mono ?_; rintro e w1 ⟨rfl, hb1⟩; obtain ⟨hc1, hf1⟩ := bcell hb1; have hz1 := hb_lt hb1)
      | (go_at_call 63; refine (within_any _ _ _ _).mono ?_; rintro e w' ⟨rfl, rfl⟩))
    go_ret
    exact ⟨ret_bool (by rw [HF.out]), (by repeat (first | exact Below.refl _ _ | assumption | apply Ext.alloc | apply Ext.drewN | apply Ext.drew | refine Ext.trans ?_ (by assumption)))⟩
  cases hq4 : few p.outs (most p.ways 1) rulOk
  · have HF := hid (show polOk p = false by rw [HM.out hq3, hq1, hq2, hq4]; rfl)
    go_wp2_with (first
      | (go_at_call 118; refine (mostRules_any _ _).mono ?_; rintro e w' ⟨rfl, rfl⟩)
      | (go_at_call 116; refine (space_any _ _).mono ?_; rintro e w' ⟨rfl, rfl⟩)
      | (go_at_call 119; refine (selRight_any _ _ _).mono ?_; rintro e w1 ⟨rfl, hb1⟩; obtain ⟨hc1, hf1⟩ := bcell hb1; have hz1 := hb_lt hb1)
      | (go_at_call 63; refine (within_any _ _ _ _).mono ?_; rintro e w' ⟨rfl, rfl⟩)
      | (go_at_call 120; refine (fewRule rulOk _ _ p.outs _ _ (rdRules.to HO.out (by repeat (first | exact Below.refl _ _ | assumption | apply Ext.alloc | apply Ext.drewN | apply Ext.drew | refine Ext.trans ?_ (by assumption)))) (fun x pa qa pc qc w1 _ _ h1 h2 => ruleRight_any x pa qa pc qc w1 h1 h2)).mono ?_; rw [hq4]; rintro e w2 ⟨rfl, hb2⟩; obtain ⟨hc2, hf2⟩ := bcell hb2; have hz2 := hb_lt hb2))
    go_ret
    exact ⟨ret_bool (by rw [HF.out]), (by repeat (first | exact Below.refl _ _ | assumption | apply Ext.alloc | apply Ext.drewN | apply Ext.drew | refine Ext.trans ?_ (by assumption)))⟩
  have HF := hid (show polOk p = few p.ins (most p.ways 2) rulOk by rw [HM.out hq3, hq1, hq2, hq4]; rfl)
  go_wp2_with (first
    | (go_at_call 118; refine (mostRules_any _ _).mono ?_; rintro e w' ⟨rfl, rfl⟩)
    | (go_at_call 116; refine (space_any _ _).mono ?_; rintro e w' ⟨rfl, rfl⟩)
    | (go_at_call 119; refine (selRight_any _ _ _).mono ?_; rintro e w1 ⟨rfl, hb1⟩; obtain ⟨hc1, hf1⟩ := bcell hb1; have hz1 := hb_lt hb1)
    | (go_at_call 63; refine (within_any _ _ _ _).mono ?_; rintro e w' ⟨rfl, rfl⟩))
  go_at_call 120
  refine (fewRule rulOk _ _ p.outs _ _ (rdRules.to HO.out (by repeat (first | exact Below.refl _ _ | assumption | apply Ext.alloc | apply Ext.drewN | apply Ext.drew | refine Ext.trans ?_ (by assumption)))) (fun x pa qa pc qc w1 _ _ h1 h2 => ruleRight_any x pa qa pc qc w1 h1 h2)).mono ?_
  rw [hq4]
  rintro e w2 ⟨rfl, hb2⟩; obtain ⟨hc2, hf2⟩ := bcell hb2; have hz2 := hb_lt hb2
  go_wp2_with fail
  refine (fewRule rulOk _ _ p.ins _ _ (rdRules.to HI.out (by repeat (first | exact Below.refl _ _ | assumption | apply Ext.alloc | apply Ext.drewN | apply Ext.drew | refine Ext.trans ?_ (by assumption)))) (fun x pa qa pc qc w1 _ _ h1 h2 => ruleRight_any x pa qa pc qc w1 h1 h2)).mono ?_
  rintro e w3 ⟨rfl, hb3⟩; obtain ⟨hc3, hf3⟩ := bcell hb3; have hz3 := hb_lt hb3
  go_wp2
  go_ret
  exact ⟨ret_bool (by rw [HF.out]), (by repeat (first | exact Below.refl _ _ | assumption | apply Ext.alloc | apply Ext.drewN | apply Ext.drew | refine Ext.trans ?_ (by assumption)))⟩
end Go.Proofs.YtmkjlhplgcifiaaGreat
namespace Go.Proofs.YtmkjlhplgcifiaaGreat
open Go.ChangeShapes Go.WideShapes Go.ChangeAt Go.RowKit
attribute [local simp] World.cell?_grow
attribute [local go_sem] World.cell?_grow
attribute [local simp] World.cell?_alloc_there
attribute [local go_sem] World.cell?_alloc_there
attribute [local go_sem] eqg_blk std_blk eqg_pod std_pod eqg_sel std_sel eqg_prt std_prt
attribute [local go_sem ↓] eql_blk eql_sel neq_sel eql_prt eql_pod
attribute [local go_sem ↓] met_in1 met_in2 met_re1 met_re2
attribute [local go_sem ↓] met_has1 met_has2
set_option linter.unusedVariables false
set_option linter.unusedSimpArgs false

theorem firstBad_none {good : Nat → Bool} {n : Nat} (h : ∀ j, j < n → good j = true) : firstBad good n = none := by
  unfold firstBad
  rw [List.find?_eq_none]
  intro i hi
  simp [h i (List.mem_range.1 hi)]
theorem firstBad_some {good : Nat → Bool} {n k : Nat} (h : ∀ j, j < k → good j = true) (hk : k < n) (hb : good k = false) : firstBad good n = some k := by
  unfold firstBad
  rw [List.find?_eq_some_iff_getElem]
  refine ⟨by simp [hb], k, by simpa using hk, by simp, fun j hj => ?_⟩
  simp [h j hj]
theorem right_many {c : DClu} (h : 8 < c.pods.length ∨ 4 < c.pols.length) : right c = (1, 0) := by rw [right, if_pos h]
theorem right_pod {c : DClu} {k : Nat} (h : ¬ (8 < c.pods.length ∨ 4 < c.pols.length)) (hk : firstBad (podGood c.pods) c.pods.length = some k) : right c = (2, (k : Int)) := by
  rw [right, if_neg h, hk]
theorem right_pol {c : DClu} {k : Nat} (h : ¬ (8 < c.pods.length ∨ 4 < c.pols.length)) (hp : firstBad (podGood c.pods) c.pods.length = none) (hk : firstBad (polGood c.pols) c.pols.length = some k) : right c = (3, (k : Int)) := by
  rw [right, if_neg h, hp]; simp only [hk]
theorem right_ok {c : DClu} (h : ¬ (8 < c.pods.length ∨ 4 < c.pols.length)) (hp : firstBad (podGood c.pods) c.pods.length = none) (hk : firstBad (polGood c.pols) c.pols.length = none) : right c = (0, 0) := by
  rw [right, if_neg h, hp]; simp only [hk]
theorem taken_eq (m : List DPod) (ip : Int) : (podAt m ip).isSome = !(m.all fun q => decide (q.ip ≠ ip)) := by
  unfold podAt
  induction m with
  | nil => rfl
  | cons a t ih =>
    by_cases h : a.ip = ip
    · simp [List.find?_cons, h]
    · simp only [List.find?_cons, decide_eq_false h, List.all_cons, decide_eq_true (show a.ip ≠ ip from h), Bool.true_and]
      exact ih
theorem podGood_some {l : List DPod} {k : Nat} {p : DPod} (h : l[k]? = some p) : podGood l k = (podOk p && !(podAt (l.take k) p.ip).isSome) := by
  rw [podGood, h]
  show (podOk p && _) = _
  rw [taken_eq, Bool.not_not]
theorem polGood_some {l : List DPol} {k : Nat} {p : DPol} (h : l[k]? = some p) : polGood l k = polOk p := by rw [polGood, h]
theorem rdPods_take {B : Nat} {w : World} {a : Option Addr} {l : List DPod} (h : rdPods B w a l) (k : Nat) : rdPods B w a (l.take k) := by
  refine ⟨?_, fun i x hx => h.2 i x ?_⟩
  · have := h.1
    have h2 : (l.take k).length ≤ l.length := by rw [List.length_take]; omega
    omega
  · rw [List.getElem?_take] at hx
    split at hx
    · exact hx
    · cases hx
theorem taken_take (a : Option Addr) (cap k : Nat) (l : List DPod) (ip : Int) (w : World) (hl : rdPods w.heap.size w a l) (hk : k ≤ l.length) :
    Calls Tryz.prog 68 #[.slice a k cap, .int .i64 ip] w fun e w' => e = .returned (.bool (podAt (l.take k) ip).isSome) ∧ Below w.heap.size w w' := by
  have := taken_any a cap (l.take k) ip w (rdPods_take hl k)
  rwa [List.length_take, Nat.min_eq_left hk] at this

set_option maxHeartbeats 4000000 in
theorem right_any (c : DClu) (pa qa : Option Addr) (pc qc : Nat) (w : World) (hp : rdPods w.heap.size w pa c.pods) (hq : rdPols w.heap.size w qa c.pols) (hpc : c.pods.length ≤ pc) :
    Calls Tryz.prog 56 #[.agg #[.slice pa c.pods.length pc, .slice qa c.pols.length qc]] w fun e w' => e = .returned (.tuple #[.int .i64 (right c).1, .int .i64 (right c).2]) ∧ Below w.heap.size w w' := by
  have HP := hid hp
  have HQ := hid hq
  have hl1 := hp.1
  have hl2 := hq.1
  clear hp hq
  by_cases hn : 8 < c.pods.length
  · have HR := hid (right_many (c := c) (Or.inl hn))
    go_enter Tryz.func56, Tryz.ntmps56
    go_wp2
    go_ret2
    exact ⟨by rw [HR.out]; rfl, (by repeat (first | exact Below.refl _ _ | assumption | apply Ext.alloc | apply Ext.drewN | apply Ext.drew | refine Ext.trans ?_ (by assumption)))⟩
  by_cases hm : 4 < c.pols.length
  · have HR := hid (right_many (c := c) (Or.inr hm))
    go_enter Tryz.func56, Tryz.ntmps56
    go_wp2
    go_ret2
    exact ⟨by rw [HR.out]; rfl, (by repeat (first | exact Below.refl _ _ | assumption | apply Ext.alloc | apply Ext.drewN | apply Ext.drew | refine Ext.trans ?_ (by assumption)))⟩
  have HN := hid (show ¬ (8 < c.pods.length ∨ 4 < c.pols.length) by omega)
  go_enter Tryz.func56, Tryz.ntmps56
  go_wp2
  go_loopw [21] (fun i wr => ∃ k : Nat, k ≤ c.pods.length ∧ i = .int .i64 k ∧ (∀ j, j < k → podGood c.pods j = true) ∧ Below (w.alloc (Obj.cells #[.slice pa c.pods.length pc, .slice qa c.pols.length qc] 28)).heap.size (w.alloc (Obj.cells #[.slice pa c.pods.length pc, .slice qa c.pols.length qc] 28)) wr) (fun i _ => c.pods.length - (intOf i).toNat)
  case atStart => exact ⟨0, Nat.zero_le _, rfl, fun j hj => absurd hj (Nat.not_lt_zero _), Below.refl _ _⟩
  case round =>
    obtain ⟨k, hk, rfl, hall, hbw⟩ := hrel
    have HA := hid hall
    clear hall
    have HW := hid hbw
    have hB : Below w.heap.size w wr := (Below.refl _ _ |>.alloc (Nat.le_refl _) _).trans (hbw.mono (by simp))
    clear hbw
    have z0 : wr.cell? ⟨w.heap.size, 0, none⟩ = some (.slice pa c.pods.length pc) := cell_to (by simp [go_sem]) HW.out
    have z1 : wr.cell? ⟨w.heap.size, 1, none⟩ = some (.slice qa c.pols.length qc) := cell_to (by simp [go_sem]) HW.out
    by_cases hlt : k < c.pods.length
    · obtain ⟨x, hxk⟩ : ∃ x, c.pods[k]? = some x := ⟨c.pods[k], by simp [hlt]⟩
      have HX := hid hxk
      have HG := hid (podGood_some hxk)
      clear hxk
      obtain ⟨b, off, rfl, hb, c0, c1, c2, c3⟩ := HP.out.2 k x HX.out
      have d0 := cell_to c0 hB
      have d1 := cell_to c1 hB
      have d2 := cell_to c2 hB
      have d3 := cell_to c3 hB
      have y0 : ∀ o, (wr.alloc o).cell? ⟨w.heap.size, 0, none⟩ = some (.slice (some ⟨b, off, none⟩) c.pods.length pc) := fun o => cell_past z0
      clear c0 c1 c2 c3
      cases hq1 : podOk x
      · have HF := hid (right_pod HN.out (firstBad_some HA.out hlt (by rw [HG.out, hq1]; rfl)))
        go_wp2
        refine wp_region_grow (by kernel_rfl) (by kernel_rfl) ?_
        repeat (go_big_quiet_step (first
          | (go_at_call 90; exact Calls.grow_bool hq1 (podRight_any x _))))
        refine wpQuiet_nil ?_
        intro w1 hb1
        obtain ⟨hc1, hf1⟩ := bcell hb1
        have hz1 := hb_lt hb1
        go_wp2
        go_ret2
        exact ⟨by rw [HF.out]; rfl, (by repeat (first | exact Below.refl _ _ | assumption | apply Ext.alloc | apply Ext.drewN | apply Ext.drew | refine Ext.trans ?_ (by assumption)))⟩
      · cases hq2 : (podAt (c.pods.take k) x.ip).isSome
        · have HH := hid (show podGood c.pods k = true by rw [HG.out, hq1, hq2]; rfl)
          go_wp2
          refine wp_region_grow (by kernel_rfl) (by kernel_rfl) ?_
          repeat (go_big_quiet_step (first
            | (go_at_call 90; exact Calls.grow_bool hq1 (podRight_any x _))
            | (go_at_call 68; exact Calls.grow_bool hq2 (taken_take _ _ _ _ _ _ (rdPods.to (rdPods.to HP.out (Ext.alloc hB _)) (World.below_grow _ _)) hk))))
          refine wpQuiet_nil ?_
          intro w1 hb1
          obtain ⟨hc1, hf1⟩ := bcell hb1
          have hz1 := hb_lt hb1
          go_wp2
          exact ⟨⟨k + 1, by omega, by go_num, fun j hj => by
            rcases Nat.lt_succ_iff_lt_or_eq.1 hj with h | h
            · exact HA.out j h
            · subst h; exact HH.out, Ext.trans (Ext.alloc HW.out _) hb1⟩, by simp [intOf]; omega⟩
        · have HF := hid (right_pod HN.out (firstBad_some HA.out hlt (by rw [HG.out, hq1, hq2]; rfl)))
          go_wp2
          refine wp_region_grow (by kernel_rfl) (by kernel_rfl) ?_
          repeat (go_big_quiet_step (first
            | (go_at_call 90; exact Calls.grow_bool hq1 (podRight_any x _))
            | (go_at_call 68; exact Calls.grow_bool hq2 (taken_take _ _ _ _ _ _ (rdPods.to (rdPods.to HP.out (Ext.alloc hB _)) (World.below_grow _ _)) hk))))
          refine wpQuiet_nil ?_
          intro w1 hb1
          obtain ⟨hc1, hf1⟩ := bcell hb1
          have hz1 := hb_lt hb1
          go_wp2
          go_ret2
          exact ⟨by rw [HF.out]; rfl, (by repeat (first | exact Below.refl _ _ | assumption | apply Ext.alloc | apply Ext.drewN | apply Ext.drew | refine Ext.trans ?_ (by assumption)))⟩
    · have HD := hid (firstBad_none (good := podGood c.pods) (n := c.pods.length) (fun j hj => HA.out j (by omega)))
      obtain ⟨wa, hwa⟩ : ∃ wa, wa = wr := ⟨_, rfl⟩
      subst hwa
      go_wp2
      go_loopw [43] (fun i wr => ∃ j : Nat, j ≤ c.pols.length ∧ i = .int .i64 j ∧ (∀ t, t < j → polGood c.pols t = true) ∧ Below wa.heap.size wa wr) (fun i _ => c.pols.length - (intOf i).toNat)
      case atStart => exact ⟨0, Nat.zero_le _, rfl, fun j hj => absurd hj (Nat.not_lt_zero _), Below.refl _ _⟩
      case round =>
        obtain ⟨j, hj, rfl, hall, hbw⟩ := hrel
        have HE := hid hall
        clear hall
        have hC : Below w.heap.size w wr := Ext.trans hB hbw
        by_cases hlt2 : j < c.pols.length
        · obtain ⟨x, hxk⟩ : ∃ x, c.pols[j]? = some x := ⟨c.pols[j], by simp [hlt2]⟩
          have HX := hid hxk
          have HG := hid (polGood_some hxk)
          clear hxk
          obtain ⟨b, off, rfl, hb, c0, c1, c2, c3, ⟨oa, oc, c4, ho⟩, ia, ic, c5, hi⟩ := HQ.out.2 j x HX.out
          have d0 := cell_to c0 hC
          have d1 := cell_to c1 hC
          have d2 := cell_to c2 hC
          have d3 := cell_to c3 hC
          have d4 := cell_to c4 hC
          have d5 := cell_to c5 hC
          have HO := hid ho
          have HI := hid hi
          clear c0 c1 c2 c3 c4 c5 ho hi
          cases hq1 : polOk x
          · have HF := hid (right_pol HN.out HD.out (firstBad_some HE.out hlt2 (by rw [HG.out, hq1])))
            go_wp2_with (go_at_call 91; refine (polRight_any x _ _ _ _ _ (rdRules.to HO.out (by repeat (first | exact Below.refl _ _ | assumption | apply Ext.alloc | apply Ext.drewN | apply Ext.drew | refine Ext.trans ?_ (by assumption)))) (rdRules.to HI.out (by repeat (first | exact Below.refl _ _ | assumption | apply Ext.alloc | apply Ext.drewN | apply Ext.drew | refine Ext.trans ?_ (by assumption))))).mono ?_; rintro e w1 ⟨rfl, hb1⟩; obtain ⟨hc1, hf1⟩ := bcell hb1; have hz1 := hb_lt hb1)
            go_ret2
            exact ⟨by rw [HF.out]; rfl, (by repeat (first | exact Below.refl _ _ | assumption | apply Ext.alloc | apply Ext.drewN | apply Ext.drew | refine Ext.trans ?_ (by assumption)))⟩
          · go_wp2_with (go_at_call 91; refine (polRight_any x _ _ _ _ _ (rdRules.to HO.out (by repeat (first | exact Below.refl _ _ | assumption | apply Ext.alloc | apply Ext.drewN | apply Ext.drew | refine Ext.trans ?_ (by assumption)))) (rdRules.to HI.out (by repeat (first | exact Below.refl _ _ | assumption | apply Ext.alloc | apply Ext.drewN | apply Ext.drew | refine Ext.trans ?_ (by assumption))))).mono ?_; rintro e w1 ⟨rfl, hb1⟩; obtain ⟨hc1, hf1⟩ := bcell hb1; have hz1 := hb_lt hb1)
            exact ⟨⟨j + 1, by omega, by go_num, fun t ht => by
              rcases Nat.lt_succ_iff_lt_or_eq.1 ht with h | h
              · exact HE.out t h
              · subst h; rw [HG.out, hq1], Ext.trans (Ext.alloc hbw _) hb1⟩, by simp [intOf]; omega⟩
        · have HF := hid (right_ok HN.out HD.out (firstBad_none (fun t ht => HE.out t (by omega))))
          go_wp2
          go_ret2
          exact ⟨by rw [HF.out]; rfl, hC⟩
end Go.Proofs.YtmkjlhplgcifiaaGreat
