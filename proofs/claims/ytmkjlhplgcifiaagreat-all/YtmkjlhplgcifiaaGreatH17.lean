/-
  row.Once: each row but once.
-/
import Derived.Test.YtmkjlhplgcifiaaGreatH16
namespace Go.Proofs.YtmkjlhplgcifiaaGreat
open Go.ChangeShapes Go.WideShapes Go.ChangeAt Go.RowKit
set_option linter.unusedVariables false
set_option linter.unusedSimpArgs false
attribute [local simp] World.cell?_grow World.cell?_alloc_there
attribute [local go_sem] World.cell?_grow World.cell?_alloc_there eqg_blk std_blk eqg_pod std_pod eqg_sel std_sel eqg_prt std_prt eqg_row std_row
attribute [local go_sem ↓] eql_blk eql_sel neq_sel eql_prt eql_pod met_in1 met_in2 met_re1 met_re2 met_has1 met_has2 met_bl1 met_bl2 neq_row
theorem mem_take_snoc {l : List DRow} {k : Nat} {x : DRow} (h : l[k]? = some x) (L : List DRow) (hL : ∀ r, r ∈ L ↔ r ∈ l.take k) : ∀ r, r ∈ L ++ [x] ↔ r ∈ l.take (k + 1) := fun r => by
  rw [List.take_add_one, h, List.mem_append, hL r]; simp
theorem mem_take_same {l : List DRow} {k : Nat} {x : DRow} (h : l[k]? = some x) (L : List DRow) (hL : ∀ r, r ∈ L ↔ r ∈ l.take k) (hx : x ∈ L) : ∀ r, r ∈ L ↔ r ∈ l.take (k + 1) := fun r => by
  rw [List.take_add_one, h, List.mem_append, ← hL r]
  constructor
  · exact .inl
  · rintro (h | h)
    · exact h
    · simp at h; subst h; exact hx
theorem ix_ne0 (n : Nat) : (((n : Int) + 1) == 0) = false := by
  have h : ¬ ((n : Int) + 1 = 0) := by omega
  simp [h]
theorem ix_wrap (n : Nat) (h : n ≤ 140737488351232) : IntKind.i64.wrap (n : Int) = (n : Int) := by rw [IntKind.wrap_i64]; omega
theorem ix_lt (n : Nat) : (n : Int) < (n : Int) + 1 := by omega
theorem ix_nn (n : Nat) : (0 : Int) ≤ (n : Int) := by omega
set_option maxRecDepth 100000 in
set_option maxHeartbeats 800000 in
theorem once_any (a : Option Addr) (cap : Nat) (zs : List DRow) (w : World) (hz : rdRows w.heap.size w a zs) :
    Calls Tryz.prog 135 #[.slice a zs.length cap] w fun e w' => (∃ (v : Value) (L : List DRow), e = .returned v ∧ w'.ownsRow w.heap.size 49 8 v L.length (L.flatMap encRow) ∧ (∀ r, r ∈ L ↔ r ∈ zs) ∧ L.length ≤ zs.length) ∧ Below w.heap.size w w' := by
  have HZ := hid hz
  have hlen := hz.1
  clear hz
  obtain ⟨i0, hi, iz0, iz1, iz2⟩ := info_parts info_row
  go_enter Tryz.func135, Tryz.ntmps135
  go_wp2_with (first
    | (go_at_call 164; refine (rvalues_any _ _ _ _).mono ?_; rintro e w1 ⟨rfl, rfl⟩)
    | (go_at_call 163; refine (sortedFunc_any a cap _ zs _ (by simp [go_sem]) (rdRows.to HZ.out bel)).mono ?_; rintro e W ⟨⟨sa, sc, l, rfl, hp, hr⟩, hb⟩; have HP := hid hp; have HR := hid hr.2; have HLL := hid hp.length_eq; clear hp hr))
  have hBW : Below w.heap.size w W := bel
  have HBa := hid hBW
  have hWs := hBW.size
  clear hb hBW
  have hlen2 : l.length * 64 ≤ 140737488351232 := by rw [HLL.out]; exact hlen
  go_loopw [3, 10] (fun kv i wr => ∃ (k : Nat) (L : List DRow), k ≤ l.length ∧ i = .int .i64 k ∧ wr.ownsRow W.heap.size 49 8 kv L.length (L.flatMap encRow) ∧ (∀ r, r ∈ L ↔ r ∈ l.take k) ∧ L.length ≤ k ∧ Below W.heap.size W wr) (fun _ i _ => l.length - (intOf i).toNat)
  case atStart => exact ⟨0, [], Nat.zero_le _, rfl, World.ownsRow_nil _ _ _ _, fun r => by simp, Nat.le_refl _, Below.refl _ _⟩
  case round =>
    obtain ⟨k, L, hk, rfl, hown, hL, hLk, hbw⟩ := hrel
    have HO2 := hid hown
    have HL := hid hL
    have HBW := hid hbw
    have HB := hid (show Below w.heap.size w wr from HBa.out.trans (hbw.mono hWs))
    clear hL
    by_cases hlt : k < l.length
    · obtain ⟨x, hxk⟩ : ∃ x, l[k]? = some x := ⟨l[k], by simp [hlt]⟩
      have HX := hid hxk
      clear hxk
      obtain ⟨b, off, rfl, hb, c0, c1, c2, c3, c4, c5, c6, c7⟩ := HR.out k x HX.out
      have d0 := cell_to c0 hbw
      have d1 := cell_to c1 hbw
      have d2 := cell_to c2 hbw
      have d3 := cell_to c3 hbw
      have d4 := cell_to c4 hbw
      have d5 := cell_to c5 hbw
      have d6 := cell_to c6 hbw
      have d7 := cell_to c7 hbw
      clear c0 c1 c2 c3 c4 c5 c6 c7
      rcases List.eq_nil_or_concat L with hn | ⟨I, y, hy⟩
      · subst hn
        obtain ⟨va, vc, rfl, _, _⟩ := own_slice hown
        have HN := hid (show (0 : Nat) = 0 from rfl)
        clear hown
        simp only [List.length_nil] at HO2
        go_wp2
        refine wp_region_grow (by kernel_rfl) (by kernel_rfl) ?_
        repeat (go_big_quiet_step (fail))
        refine wpQuiet_nil ?_
        intro w1 hb1
        obtain ⟨hc1, hf1⟩ := bcell hb1
        have hz1 := hb_lt hb1
        have e0 : w1.cell? ⟨wr.heap.size, 0, none⟩ = some (.int .i64 x.sb) := cell_to (by simp [go_sem]) hb1
        have e1 : w1.cell? ⟨wr.heap.size, 1, none⟩ = some (.int .i64 x.sn) := cell_to (by simp [go_sem]) hb1
        have e2 : w1.cell? ⟨wr.heap.size, 2, none⟩ = some (.int .i64 x.db) := cell_to (by simp [go_sem]) hb1
        have e3 : w1.cell? ⟨wr.heap.size, 3, none⟩ = some (.int .i64 x.dn) := cell_to (by simp [go_sem]) hb1
        have e4 : w1.cell? ⟨wr.heap.size, 4, none⟩ = some (.int .i64 x.proto) := cell_to (by simp [go_sem]) hb1
        have e5 : w1.cell? ⟨wr.heap.size, 5, none⟩ = some (.int .i64 x.lo) := cell_to (by simp [go_sem]) hb1
        have e6 : w1.cell? ⟨wr.heap.size, 6, none⟩ = some (.int .i64 x.hi) := cell_to (by simp [go_sem]) hb1
        have e7 : w1.cell? ⟨wr.heap.size, 7, none⟩ = some (.bool x.allow) := cell_to (by simp [go_sem]) hb1
        have HO3 := hid (own_to (HO2.out.alloc (Obj.cells #[.int .i64 x.sb, .int .i64 x.sn, .int .i64 x.db, .int .i64 x.dn, .int .i64 x.proto, .int .i64 x.lo, .int .i64 x.hi, .bool x.allow] 49)) hb1)
        have hW1 : Below W.heap.size W w1 := (HBW.out.alloc HBW.out.size _).trans (hb1.mono (by have := HBW.out.size; simp; omega))
        clear hc1 hf1 hz1
        go_wp2_with (at_builtin; refine wpList_append_own _ rfl _ _ 40 rfl W.heap.size 49 i0 _ 8 64 Tryz.underlying40 hi iz0 iz1 iz2 rfl (by decide) _ _ _ rfl (HO3.out.alloc _) ⟨w1.heap.size, 0, none⟩ 1 1 [.int .i64 x.sb, .int .i64 x.sn, .int .i64 x.db, .int .i64 x.dn, .int .i64 x.proto, .int .i64 x.lo, .int .i64 x.hi, .bool x.allow] rfl rfl (cell_new_list _ [.int .i64 x.sb, .int .i64 x.sn, .int .i64 x.db, .int .i64 x.dn, .int .i64 x.proto, .int .i64 x.lo, .int .i64 x.hi, .bool x.allow] _) (fun u hu => by simp at hu; rcases hu with rfl | rfl | rfl | rfl | rfl | rfl | rfl | rfl <;> rfl) (by unfold maxLen; omega) (by omega) (by have := hW1.size; simp; omega) ?_; intro v' w3 hown' hg3 hn3)
        exact ⟨⟨k + 1, [x], by omega, by go_num, by simpa [encRow] using hown', mem_take_snoc HX.out [] HL.out, by simp, own_below (hW1.alloc hW1.size _) (by have := hW1.size; simp; omega) (HO3.out.alloc _) hg3⟩, by simp [intOf]; omega⟩
      · rw [List.concat_eq_append] at hy
        subst hy
        have hIl : (I ++ [y]).length = I.length + 1 := by simp
        obtain ⟨va, vc, rfl, _, _⟩ := own_slice hown
        obtain ⟨g, go, rfl, _, hg2, hyc⟩ := own_at (k := 8) encRow_len (by decide) hown I.length y (by simp)
        rw [hIl] at hLk HO2
        have z0 : (wr.alloc (Obj.cells #[.int .i64 x.sb, .int .i64 x.sn, .int .i64 x.db, .int .i64 x.dn, .int .i64 x.proto, .int .i64 x.lo, .int .i64 x.hi, .bool x.allow] 49)).cell? ⟨g, go + I.length * 8, none⟩ = some (.int .i64 y.sb) := cell_past (hyc 0 _ rfl)
        have z1 : (wr.alloc (Obj.cells #[.int .i64 x.sb, .int .i64 x.sn, .int .i64 x.db, .int .i64 x.dn, .int .i64 x.proto, .int .i64 x.lo, .int .i64 x.hi, .bool x.allow] 49)).cell? ⟨g, go + I.length * 8 + 1, none⟩ = some (.int .i64 y.sn) := cell_past (hyc 1 _ rfl)
        have z2 : (wr.alloc (Obj.cells #[.int .i64 x.sb, .int .i64 x.sn, .int .i64 x.db, .int .i64 x.dn, .int .i64 x.proto, .int .i64 x.lo, .int .i64 x.hi, .bool x.allow] 49)).cell? ⟨g, go + I.length * 8 + 2, none⟩ = some (.int .i64 y.db) := cell_past (hyc 2 _ rfl)
        have z3 : (wr.alloc (Obj.cells #[.int .i64 x.sb, .int .i64 x.sn, .int .i64 x.db, .int .i64 x.dn, .int .i64 x.proto, .int .i64 x.lo, .int .i64 x.hi, .bool x.allow] 49)).cell? ⟨g, go + I.length * 8 + 3, none⟩ = some (.int .i64 y.dn) := cell_past (hyc 3 _ rfl)
        have z4 : (wr.alloc (Obj.cells #[.int .i64 x.sb, .int .i64 x.sn, .int .i64 x.db, .int .i64 x.dn, .int .i64 x.proto, .int .i64 x.lo, .int .i64 x.hi, .bool x.allow] 49)).cell? ⟨g, go + I.length * 8 + 4, none⟩ = some (.int .i64 y.proto) := cell_past (hyc 4 _ rfl)
        have z5 : (wr.alloc (Obj.cells #[.int .i64 x.sb, .int .i64 x.sn, .int .i64 x.db, .int .i64 x.dn, .int .i64 x.proto, .int .i64 x.lo, .int .i64 x.hi, .bool x.allow] 49)).cell? ⟨g, go + I.length * 8 + 5, none⟩ = some (.int .i64 y.lo) := cell_past (hyc 5 _ rfl)
        have z6 : (wr.alloc (Obj.cells #[.int .i64 x.sb, .int .i64 x.sn, .int .i64 x.db, .int .i64 x.dn, .int .i64 x.proto, .int .i64 x.lo, .int .i64 x.hi, .bool x.allow] 49)).cell? ⟨g, go + I.length * 8 + 6, none⟩ = some (.int .i64 y.hi) := cell_past (hyc 6 _ rfl)
        have z7 : (wr.alloc (Obj.cells #[.int .i64 x.sb, .int .i64 x.sn, .int .i64 x.db, .int .i64 x.dn, .int .i64 x.proto, .int .i64 x.lo, .int .i64 x.hi, .bool x.allow] 49)).cell? ⟨g, go + I.length * 8 + 7, none⟩ = some (.bool y.allow) := cell_past (hyc 7 _ rfl)
        clear hyc hown
        have hq0 := ix_ne0 I.length
        have hq1 := ix_wrap I.length (by omega)
        have hq3 := ix_lt I.length
        have hq4 := ix_nn I.length
        simp only [hIl]
        cases hx : rowNe y x
        · have HEQ := hid (rowNe_false hx)
          go_wp2
          refine wp_region_grow (by kernel_rfl) (by kernel_rfl) ?_
          repeat (go_big_quiet_step (fail))
          refine wpQuiet_nil ?_
          intro w1 hb1
          obtain ⟨hc1, hf1⟩ := bcell hb1
          have hz1 := hb_lt hb1
          have e0 : w1.cell? ⟨wr.heap.size, 0, none⟩ = some (.int .i64 x.sb) := cell_to (by simp [go_sem]) hb1
          have e1 : w1.cell? ⟨wr.heap.size, 1, none⟩ = some (.int .i64 x.sn) := cell_to (by simp [go_sem]) hb1
          have e2 : w1.cell? ⟨wr.heap.size, 2, none⟩ = some (.int .i64 x.db) := cell_to (by simp [go_sem]) hb1
          have e3 : w1.cell? ⟨wr.heap.size, 3, none⟩ = some (.int .i64 x.dn) := cell_to (by simp [go_sem]) hb1
          have e4 : w1.cell? ⟨wr.heap.size, 4, none⟩ = some (.int .i64 x.proto) := cell_to (by simp [go_sem]) hb1
          have e5 : w1.cell? ⟨wr.heap.size, 5, none⟩ = some (.int .i64 x.lo) := cell_to (by simp [go_sem]) hb1
          have e6 : w1.cell? ⟨wr.heap.size, 6, none⟩ = some (.int .i64 x.hi) := cell_to (by simp [go_sem]) hb1
          have e7 : w1.cell? ⟨wr.heap.size, 7, none⟩ = some (.bool x.allow) := cell_to (by simp [go_sem]) hb1
          have HO3 := hid (own_to (HO2.out.alloc (Obj.cells #[.int .i64 x.sb, .int .i64 x.sn, .int .i64 x.db, .int .i64 x.dn, .int .i64 x.proto, .int .i64 x.lo, .int .i64 x.hi, .bool x.allow] 49)) hb1)
          have hW1 : Below W.heap.size W w1 := (HBW.out.alloc HBW.out.size _).trans (hb1.mono (by have := HBW.out.size; simp; omega))
          clear hc1 hf1 hz1
          go_wp2
          exact ⟨⟨k + 1, I ++ [y], by omega, by go_num, by rw [hIl]; simpa using HO3.out, mem_take_same HX.out _ HL.out (by rw [← HEQ.out]; simp), by rw [hIl]; omega, hW1⟩, by simp [intOf]; omega⟩
        · go_wp2
          refine wp_region_grow (by kernel_rfl) (by kernel_rfl) ?_
          repeat (go_big_quiet_step (fail))
          refine wpQuiet_nil ?_
          intro w1 hb1
          obtain ⟨hc1, hf1⟩ := bcell hb1
          have hz1 := hb_lt hb1
          have e0 : w1.cell? ⟨wr.heap.size, 0, none⟩ = some (.int .i64 x.sb) := cell_to (by simp [go_sem]) hb1
          have e1 : w1.cell? ⟨wr.heap.size, 1, none⟩ = some (.int .i64 x.sn) := cell_to (by simp [go_sem]) hb1
          have e2 : w1.cell? ⟨wr.heap.size, 2, none⟩ = some (.int .i64 x.db) := cell_to (by simp [go_sem]) hb1
          have e3 : w1.cell? ⟨wr.heap.size, 3, none⟩ = some (.int .i64 x.dn) := cell_to (by simp [go_sem]) hb1
          have e4 : w1.cell? ⟨wr.heap.size, 4, none⟩ = some (.int .i64 x.proto) := cell_to (by simp [go_sem]) hb1
          have e5 : w1.cell? ⟨wr.heap.size, 5, none⟩ = some (.int .i64 x.lo) := cell_to (by simp [go_sem]) hb1
          have e6 : w1.cell? ⟨wr.heap.size, 6, none⟩ = some (.int .i64 x.hi) := cell_to (by simp [go_sem]) hb1
          have e7 : w1.cell? ⟨wr.heap.size, 7, none⟩ = some (.bool x.allow) := cell_to (by simp [go_sem]) hb1
          have HO3 := hid (own_to (HO2.out.alloc (Obj.cells #[.int .i64 x.sb, .int .i64 x.sn, .int .i64 x.db, .int .i64 x.dn, .int .i64 x.proto, .int .i64 x.lo, .int .i64 x.hi, .bool x.allow] 49)) hb1)
          have hW1 : Below W.heap.size W w1 := (HBW.out.alloc HBW.out.size _).trans (hb1.mono (by have := HBW.out.size; simp; omega))
          clear hc1 hf1 hz1
          go_wp2_with (at_builtin; refine wpList_append_own _ rfl _ _ 40 rfl W.heap.size 49 i0 _ 8 64 Tryz.underlying40 hi iz0 iz1 iz2 rfl (by decide) _ _ _ rfl (HO3.out.alloc _) ⟨w1.heap.size, 0, none⟩ 1 1 [.int .i64 x.sb, .int .i64 x.sn, .int .i64 x.db, .int .i64 x.dn, .int .i64 x.proto, .int .i64 x.lo, .int .i64 x.hi, .bool x.allow] rfl rfl (cell_new_list _ [.int .i64 x.sb, .int .i64 x.sn, .int .i64 x.db, .int .i64 x.dn, .int .i64 x.proto, .int .i64 x.lo, .int .i64 x.hi, .bool x.allow] _) (fun u hu => by simp at hu; rcases hu with rfl | rfl | rfl | rfl | rfl | rfl | rfl | rfl <;> rfl) (by unfold maxLen; omega) (by omega) (by have := hW1.size; simp; omega) ?_; intro v' w3 hown' hg3 hn3)
          exact ⟨⟨k + 1, I ++ [y] ++ [x], by omega, by go_num, own_snoc (enc := encRow) (by simpa [encRow] using hown'), mem_take_snoc HX.out _ HL.out, by simp; omega, own_below (hW1.alloc hW1.size _) (by have := hW1.size; simp; omega) (HO3.out.alloc _) hg3⟩, by simp [intOf]; omega⟩
    · go_wp2
      have he : l.take k = l := List.take_of_length_le (by omega)
      have hL := HL.out
      rw [he] at hL
      go_ret
      exact ⟨⟨_, L, rfl, own_le HO2.out hWs, fun r => (hL r).trans HP.out.mem_iff, by rw [← HLL.out]; omega⟩, HB.out⟩
end Go.Proofs.YtmkjlhplgcifiaaGreat
namespace Go.Proofs.YtmkjlhplgcifiaaGreat
open Go.ChangeShapes Go.WideShapes Go.ChangeAt Go.RowKit
set_option linter.unusedVariables false
set_option linter.unusedSimpArgs false
attribute [local simp] World.cell?_grow World.cell?_alloc_there
attribute [local go_sem] World.cell?_grow World.cell?_alloc_there eqg_blk std_blk eqg_pod std_pod eqg_sel std_sel eqg_prt std_prt
attribute [local go_sem ↓] eql_blk eql_sel neq_sel eql_prt eql_pod met_in1 met_in2 met_re1 met_re2 met_has1 met_has2 met_bl1 met_bl2
set_option maxRecDepth 100000 in
set_option maxHeartbeats 4000000 in
theorem gaps_in (q : DPol) (oa ia : Option Addr) (oc ic : Nat) (sa : Option Addr) (pods : List DPod) (sc : Nat) (w : World) (hr : rdRules w.heap.size w ia q.ins) (hd : rdPods w.heap.size w sa pods) (ho : podsOk pods) (hpl : pods.length ≤ 8) (hq : polOk q = true) :
    Calls Tryz.prog 134 #[.agg #[.int .i64 q.space, .int .i64 q.need, .int .i64 q.ban, .int .i64 q.ways, .slice oa q.outs.length oc, .slice ia q.ins.length ic], .int .i64 2, .slice sa pods.length sc] w
      fun e w' => (∃ v, e = .returned v ∧ w'.ownsRow w.heap.size 187 5 v (gapsOf pods 2 q).length ((gapsOf pods 2 q).flatMap encGap)) ∧ Below w.heap.size w w' := by
  have HF := hid (show gapsOf pods 2 q = q.ins.flatMap (rgaps pods q.space) from rfl)
  have HR := hid hr
  have HD := hid hd
  have HO := hid ho
  have HQ := hid (polOk_ins hq)
  have hrl := polOk_ins_len hq
  have hlen := hr.1
  have h0 := (btw_true.1 (polOk_space hq)).1
  have h1 := (btw_true.1 (polOk_space hq)).2
  rw [HF.out]
  clear hr hd ho hq
  obtain ⟨i0, hi, iz0, iz1, iz2⟩ := info_parts info_gap
  go_enter Tryz.func134, Tryz.ntmps134
  go_wp2_with (go_at_call 127; refine (rules_in q _ _ _ _ _).mono ?_; rintro e w1 ⟨rfl, hb1⟩; obtain ⟨hc1, hf1⟩ := bcell hb1; have hz1 := hb_lt hb1)
  have hBa : Below w.heap.size w w1 := bel
  have s0 : w1.cell? ⟨w.heap.size + 1, 0, none⟩ = some (.int .i64 q.space) := cell_to (by simp [go_sem]) hb1
  have s1 : w1.cell? ⟨w.heap.size + 1, 1, none⟩ = some (.slice sa pods.length sc) := cell_to (by simp [go_sem]) hb1
  have HBa := hid hBa
  have hWs := hBa.size
  clear hBa hb1 hc1 hf1 hz1
  go_loopw [8, 23] (fun kv i wr => ∃ k : Nat, k ≤ q.ins.length ∧ i = .int .i64 k ∧ wr.ownsRow w1.heap.size 187 5 kv ((q.ins.take k).flatMap (rgaps pods q.space)).length (((q.ins.take k).flatMap (rgaps pods q.space)).flatMap encGap) ∧ Below w1.heap.size w1 wr) (fun _ i _ => q.ins.length - (intOf i).toNat)
  case atStart => exact ⟨0, Nat.zero_le _, rfl, World.ownsRow_nil _ _ _ _, Below.refl _ _⟩
  case round =>
    obtain ⟨k, hk, rfl, hown, hbw⟩ := hrel
    obtain ⟨kv0, hkv⟩ : ∃ v, v = u8 := ⟨_, rfl⟩
    obtain ⟨wa, hwa⟩ : ∃ wa, wa = wr := ⟨_, rfl⟩
    subst hkv hwa
    have HO2 := hid hown
    have HBW := hid hbw
    have HB := hid (show Below w.heap.size w wa from HBa.out.trans (hbw.mono hWs))
    have hwa := hbw.size
    clear hown
    by_cases hlt : k < q.ins.length
    · obtain ⟨r, hxk⟩ : ∃ r, q.ins[k]? = some r := ⟨q.ins[k], by simp [hlt]⟩
      have HX := hid hxk
      have hro := HQ.out r (List.mem_of_getElem? hxk)
      have HRO := hid hro
      have HT := hid (take_flat (f := rgaps pods q.space) hxk)
      have hP := gaps_pre (pods := pods) (space := q.space) HQ.out hpl k
      have hfl := dfars_le (space := q.space) hro hpl
      have hpo := dports_le hro
      clear hxk hro
      obtain ⟨b, off, rfl, hb, ⟨pa, pc, c0, hrp⟩, qa, qc, c1, hrq⟩ := HR.out.2 k r HX.out
      have d0 := cell_to c0 HB.out
      have d1 := cell_to c1 HB.out
      have t0 := cell_to s0 hbw
      have t1 := cell_to s1 hbw
      have HRP := hid hrp
      have HRQ := hid hrq
      clear hrp hrq c0 c1
      go_wp2_with (go_at_call 161; refine (fars_any r _ _ _ _ _ _ pods _ _ (rdPeers.ext (HB.out.alloc HB.out.size _) (by have := HB.out.size; simp; omega) HRP.out) (rdPods.ext (HB.out.alloc HB.out.size _) (by have := HB.out.size; simp; omega) HD.out) HO.out hpl HRO.out h0 h1).mono ?_; rintro e w2 ⟨⟨v2, rfl, ho2⟩, hb2⟩; obtain ⟨fa, fc, rfl, _, hfr⟩ := own_slice ho2; have HO3 := hid ho2; have HFR := hid hfr; have HK := hid (own_to (HO2.out.alloc (.cells #[.slice pa r.peers.length pc, .slice qa r.ports.length qc] 64)) hb2); have b0 : w2.cell? ⟨wa.heap.size, 0, none⟩ = some (.slice pa r.peers.length pc) := cell_to (by simp [go_sem]) hb2; have b1 : w2.cell? ⟨wa.heap.size, 1, none⟩ = some (.slice qa r.ports.length qc) := cell_to (by simp [go_sem]) hb2; have hs2 := hb2.size; have HB2 := hid (show Below wa.heap.size wa w2 from ((Below.refl _ wa).alloc (Nat.le_refl _) _).trans (hb2.mono (by simp))); clear ho2 hfr hb2)
      simp only [World.size_alloc] at hs2 HO3 HFR
      have HB3 := hid (show Below w.heap.size w w2 from HB.out.trans (HB2.out.mono (by have := HB.out.size; omega)))
      clear d0 d1 t0 t1
      -- the far ends
      go_loopw [8, 31] (fun kv i wq => ∃ j : Nat, j ≤ (dfars pods q.space r).length ∧ i = .int .i64 j ∧ wq.ownsRow w1.heap.size 187 5 kv (((q.ins.take k).flatMap (rgaps pods q.space)) ++ ((dfars pods q.space r).take j).flatMap (fgaps r)).length ((((q.ins.take k).flatMap (rgaps pods q.space)) ++ ((dfars pods q.space r).take j).flatMap (fgaps r)).flatMap encGap) ∧ Inv w2 kv0 wq kv) (fun _ i _ => (dfars pods q.space r).length - (intOf i).toNat)
      case atStart => exact ⟨0, Nat.zero_le _, rfl, by simpa using HK.out, Inv.refl _ _⟩
      case round =>
        obtain ⟨j, hj, rfl, hown2, hinv⟩ := hrel
        obtain ⟨kvb, hkv⟩ : ∃ v, v = u8 := ⟨_, rfl⟩
        obtain ⟨wb, hwb⟩ : ∃ wb, wb = wr := ⟨_, rfl⟩
        subst hkv hwb
        have HO4 := hid hown2
        have HI := hid hinv
        have hlow := hinv.low HO2.out (show w1.heap.size ≤ w2.heap.size by omega)
        have HBb := hid (show Below w.heap.size w wb from HB3.out.trans (hlow.mono hWs))
        have HBL := hid hlow
        have hwbs := hinv.gr.size
        have g0 := hinv.cell (own_ne HO2.out (.inr (Nat.le_refl _))) b0
        have g1 := hinv.cell (own_ne HO2.out (.inr (Nat.le_refl _))) b1
        have hjl := flatMap_le (f := fgaps r) (m := 2) ((dfars pods q.space r).take j) (fun f _ => fgaps_le HRO.out f)
        rw [List.length_take] at hjl
        clear hown2 hlow
        by_cases hlt2 : j < (dfars pods q.space r).length
        · obtain ⟨f, hfj⟩ : ∃ f, (dfars pods q.space r)[j]? = some f := ⟨(dfars pods q.space r)[j], by simp [hlt2]⟩
          have HFJ := hid hfj
          have HTF := hid (take_flat (f := fgaps r) hfj)
          obtain ⟨gf, fo, rfl, hgf, hgf2, hfc⟩ := own_at (k := 2) (fun _ => rfl) (by decide) HO3.out j f hfj
          have f0 : wb.cell? ⟨gf, fo + j * 2, none⟩ = some (.int .i64 f.base) := hinv.cell (own_ne HO2.out (.inr (show wa.heap.size ≤ gf by omega))) (hfc 0 _ rfl)
          have f1 : wb.cell? ⟨gf, fo + j * 2 + 1, none⟩ = some (.int .i64 f.bits) := hinv.cell (own_ne HO2.out (.inr (show wa.heap.size ≤ gf by omega))) (hfc 1 _ rfl)
          clear hfj hfc hinv
          go_wp2_with (go_at_call 162; refine (ports_any r _ _ _ _ w.heap.size _ (rdPorts.ext (HBb.out.alloc HBb.out.size _) (Nat.le_refl _) HRQ.out) (by have := HBb.out.size; simp; omega)).mono ?_; rintro e w3 ⟨⟨ap, cp, rfl, hps⟩, hb3⟩; have HPS := hid hps; have HK3 := hid (own_to (HO4.out.alloc (.cells #[.int .i64 f.base, .int .i64 f.bits] 47)) hb3); have e0 : w3.cell? ⟨wb.heap.size, 0, none⟩ = some (.int .i64 f.base) := cell_to (by simp [go_sem]) hb3; have e1 : w3.cell? ⟨wb.heap.size, 1, none⟩ = some (.int .i64 f.bits) := cell_to (by simp [go_sem]) hb3; have hs3 := hb3.size; have HI3 := hid ((HI.out.ext ((Below.refl _ wb).alloc (Nat.le_refl _) (.cells #[.int .i64 f.base, .int .i64 f.bits] 47))).ext hb3); clear hps hb3)
          simp only [World.size_alloc] at hs3
          have hpl2 := HPS.out.1
          clear g0 g1 f0 f1
          -- the ports
          go_loopw [8, 38] (fun kv i wc => ∃ t : Nat, t ≤ (dports r).length ∧ i = .int .i64 t ∧ wc.ownsRow w1.heap.size 187 5 kv (((q.ins.take k).flatMap (rgaps pods q.space) ++ ((dfars pods q.space r).take j).flatMap (fgaps r)) ++ ((dports r).take t).map fun p => (⟨f, p⟩ : DGap)).length ((((q.ins.take k).flatMap (rgaps pods q.space) ++ ((dfars pods q.space r).take j).flatMap (fgaps r)) ++ ((dports r).take t).map fun p => (⟨f, p⟩ : DGap)).flatMap encGap) ∧ Inv w3 kvb wc kv) (fun _ i _ => (dports r).length - (intOf i).toNat)
          case atStart => exact ⟨0, Nat.zero_le _, rfl, by simpa using HK3.out, Inv.refl _ _⟩
          case round =>
            obtain ⟨t, ht, rfl, hown5, hinv5⟩ := hrel
            have HO5 := hid hown5
            have HI5 := hid hinv5
            have hwr5 := hinv5.gr.size
            have i0' := hinv5.cell (own_ne HO4.out (.inr (Nat.le_refl _))) e0
            have i1' := hinv5.cell (own_ne HO4.out (.inr (Nat.le_refl _))) e1
            have hbase5 : w1.heap.size ≤ wr.heap.size := by omega
            clear hown5
            by_cases hlt3 : t < (dports r).length
            · obtain ⟨y, hyt⟩ : ∃ y, (dports r)[t]? = some y := ⟨(dports r)[t], by simp [hlt3]⟩
              have HY := hid hyt
              obtain ⟨bp, op, rfl, hbp, _, q0, q1, q2⟩ := HPS.out.2 t y hyt
              have hbp' : bp < w1.heap.size ∨ wb.heap.size ≤ bp := by
                rcases hbp with h | h
                · exact .inl (by omega)
                · simp only [World.size_alloc] at h; exact .inr (by omega)
              have y0 := hinv5.cell (own_ne HO4.out hbp') q0
              have y1 := hinv5.cell (own_ne HO4.out hbp') q1
              have y2 := hinv5.cell (own_ne HO4.out hbp') q2
              clear hyt q0 q1 q2 hinv5
              go_wp2_with (at_builtin; refine wpList_append_own_at _ rfl _ _ 184 rfl w1.heap.size 187 i0 _ 5 40 Tryz.underlying184 hi iz0 iz1 iz2 rfl (by decide) _ _ _ rfl ((HO5.out.alloc _).alloc _) ⟨wr.heap.size + 1, 0, none⟩ 1 1 [.int .i64 f.base, .int .i64 f.bits, .int .i64 y.proto, .int .i64 y.lo, .int .i64 y.hi] rfl rfl (cell_new_list2 _ _ [.int .i64 f.base, .int .i64 f.bits, .int .i64 y.proto, .int .i64 y.lo, .int .i64 y.hi] _) (fun u hu => by simp at hu; rcases hu with rfl | rfl | rfl | rfl | rfl <;> rfl) (by have := gap_sum hlt hrl hP hjl hfl (S := ((dports r).take t).map fun p => (⟨f, p⟩ : DGap)) (t := t) (by rw [List.length_map, List.length_take]) hpo; unfold maxLen; omega) (by have := gap_sum hlt hrl hP hjl hfl (S := ((dports r).take t).map fun p => (⟨f, p⟩ : DGap)) (t := t) (by rw [List.length_map, List.length_take]) hpo; omega) (by simp; omega) ?_; intro v' w4 hown' hg4 _ hat4)
              refine ⟨⟨t + 1, by omega, by go_num, ?_, ?_⟩, by simp [intOf]; omega⟩
              · rw [List.take_add_one, HY.out, Option.toList_some, List.map_append, ← List.append_assoc]; exact own_snoc (enc := encGap) (x := ⟨f, y⟩) hown'
              · exact (HI5.out.ext (((Below.refl _ wr).alloc (Nat.le_refl _) _).alloc (by simp) _)).trans (Inv.app hg4 hat4)
            · go_wp2
              have he : (dports r).take t = dports r := List.take_of_length_le (by omega)
              have ho5 := HO5.out
              rw [he] at ho5
              refine ⟨⟨j + 1, by omega, by go_num, ?_, HI3.out.trans HI5.out⟩, by simp [intOf]; omega⟩
              rw [HTF.out, ← List.append_assoc]; exact ho5
        · go_wp2
          have he : (dfars pods q.space r).take j = dfars pods q.space r := List.take_of_length_le (by omega)
          have ho4 := HO4.out
          rw [he] at ho4
          refine ⟨⟨k + 1, by omega, by go_num, ?_, ?_⟩, by simp [intOf]; omega⟩
          · rw [HT.out]; exact ho4
          · exact HBW.out.trans ((HB2.out.mono hwa).trans HBL.out)
    · go_wp2
      have he : q.ins.take k = q.ins := List.take_of_length_le (by omega)
      have ho := HO2.out
      rw [he] at ho
      go_ret
      exact ⟨⟨_, rfl, own_le ho hWs⟩, HB.out⟩
end Go.Proofs.YtmkjlhplgcifiaaGreat
