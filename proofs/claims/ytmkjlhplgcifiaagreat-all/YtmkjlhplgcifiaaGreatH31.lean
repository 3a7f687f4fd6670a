/-
  palisadelaw: drawer.keep, walked: the list that came is written over with marks, and it and three longer ones are kept.
-/
import Derived.Test.YtmkjlhplgcifiaaGreatH30
import Derived.Deep.CutRange
import Derived.Deep.CutBlock
namespace Go.Proofs.YtmkjlhplgcifiaaGreat
open Go.ChangeShapes Go.WideShapes Go.ChangeAt Go.RowKit
set_option linter.unusedVariables false
set_option linter.unusedSimpArgs false
attribute [local simp] World.cell?_grow World.cell?_alloc_there
attribute [local go_sem] World.cell?_grow World.cell?_alloc_there eqg_blk std_blk eqg_pod std_pod eqg_sel std_sel eqg_prt std_prt eqg_row std_row
attribute [local go_sem ↓] eql_blk eql_sel neq_sel eql_prt eql_pod met_in1 met_in2 met_re1 met_re2 met_has1 met_has2 met_bl1 met_bl2 neq_row
theorem wpList_append_marks {P : Program} (w : World) {ops : Array Oper} {rest : List Oper} {o : Oper} {a : Act} {Q : Exit → Act → World → Prop} (hgd : o.guard = none) (s x : Operand) (t : TypeId)
    (ho : o.op = .call { callee := .builtin .append, args := #[s, x], argTypes := #[t, t] }) (base : Nat) (e : TypeId) (i : TypeInfo) (z : Value) (bytes : Nat) (ht : P.underlying t = some (.slice e)) (hi : P.info? e = some i) (hz : i.zero = some z)
    (hsize : i.size = 8) (hby : i.bytes = bytes) (hzs : z.cells.size = 8) (r : DRow) (v : Value) (n : Nat) (hs : a.eval s = v) (hown : w.ownsRow base e 8 v n (marks r n))
    (ad : Addr) (m c : Nat) (hx : a.eval x = .slice (some ad) m c) (hnews : ∀ j u, (marks r m)[j]? = some u → w.cell? (ad.add j) = some u) (h63 : n + m ≤ maxLen) (hbytes : (n + m) * bytes ≤ 140737488355328) (hbase : base ≤ w.heap.size)
    (h : ∀ v' w', w'.ownsRow base e 8 v' (n + m) (marks r (n + m)) → w.grownBy w' v.ownBlock → (v'.ownBlock = v.ownBlock ∨ v'.ownBlock = some w.heap.size) → (∀ u k, w.ownsRow base e 8 u k (marks r k) → w'.ownsRow base e 8 u k (marks r k)) → wpList P ops Q rest (a.put o.dst v') w') : wpList P ops Q (o :: rest) a w :=
  wpList_plain hgd fun _ hK => by
    obtain ⟨v', w', hr, h2, h3, h4, h5⟩ := run_append_marks (P := P) w base t o.type e i z bytes ht hi hz hsize hby hzs r v n hown ad m c hnews h63 hbytes hbase
    unfold Oper.wp execOp
    simp only [ho, resolve, invoke, builtin, Sem.run_bind, Sem.run_pure, Result.andThen_ok, List.map_toArray, List.map_cons, List.map_nil, hs, hx, hr]
    exact hK _ _ (h v' w' h2 h3 h4 h5)
structure DSl where
  a : Option Addr
  n : Nat
  c : Nat
def encSl (d : DSl) : List Value := [.slice d.a d.n d.c]
theorem info_srow : (Tryz.prog.info? 40).map (fun i => (i.zero, i.size, i.bytes)) = some (some (.slice none 0 0), 1, 24) := by kernel_rfl
theorem own_loop {w : World} {base : Nat} {e : TypeId} {g n cap : Nat} {cur : Array Value} {r : DRow} (hl : n ≤ cap) (hc : cap ≤ maxLen) (hb : base ≤ g) (hg : w.heap[g]? = some (.cells cur e (0, 0))) (hs : cur.size = cap * 8) (h : ∀ j, j < n * 8 → cur[j]? = (encRow r)[j % 8]?) : w.ownsRow base e 8 (.slice (some ⟨g, 0, none⟩) n cap) n (marks r n) :=
  ⟨marks_len r n, .inr ⟨g, cap, cur, rfl, hb, hg, hl, hc, hs, marks_of (by rw [hs]; exact Nat.mul_le_mul_right _ hl) h⟩⟩
def KeptOk (wb B G0 : Nat) (vl vd v : Value) (Ds : List DSl) (n : Nat) (w w' : World) : Prop :=
  ∃ (vd' : Value) (d0 d1 d2 d3 : DSl), d0.n = n ∧ d1.n = n + 1 ∧ d2.n = n + 2 ∧ d3.n = n + 3 ∧ w'.heap[wb]? = some (.cells #[vl, vd'] 85 (0, 0)) ∧ w'.ownsRow B 40 1 vd' (Ds ++ [d0, d1, d2, d3]).length ((Ds ++ [d0, d1, d2, d3]).flatMap encSl) ∧
    (vd'.ownBlock = vd.ownBlock ∨ ∃ g, vd'.ownBlock = some g ∧ w.heap.size ≤ g) ∧ (∀ d ∈ [d0, d1, d2, d3], w'.ownsRow G0 49 8 (.slice d.a d.n d.c) d.n (marks (markRow Ds.length) d.n)) ∧
    w'.os = w.os ∧ w'.tape = w.tape ∧ w'.output = w.output ∧ w.heap.size ≤ w'.heap.size ∧ ∀ b, b < w.heap.size → b ≠ wb → vd.ownBlock ≠ some b → v.ownBlock ≠ some b → w'.heap[b]? = w.heap[b]?
set_option maxRecDepth 100000 in
set_option maxHeartbeats 4000000 in
theorem keep_any (wb B G0 : Nat) (vl vd v : Value) (Ds : List DSl) (n : Nat) (xs : List Value) (w : World) (hblk : w.heap[wb]? = some (.cells #[vl, vd] 85 (0, 0))) (hod : w.ownsRow B 40 1 vd Ds.length (Ds.flatMap encSl))
    (hDl : (Ds.length + 4) * 24 ≤ 140737488355328) (hown : w.ownsRow G0 49 8 v n xs) (hn : n ≤ 20000) (hBw : B ≤ wb) (hwG : wb < G0) (hvG : ∀ g, vd.ownBlock = some g → g < G0) (hBG : B ≤ G0) (hGw : G0 ≤ w.heap.size) :
    Calls Tryz.prog 82 #[.pointer (some ⟨wb, 1, none⟩), v] w fun e w' => e = .returned (.tuple #[]) ∧ KeptOk wb B G0 vl vd v Ds n w w' := by
  obtain ⟨ir0, hir, irz0, irz1, irz2⟩ := info_parts info_row
  obtain ⟨is0, his, isz0, isz1, isz2⟩ := info_parts info_srow
  obtain ⟨da, dc, hvd, hdc, _⟩ := own_slice hod
  have w1 : w.cell? ⟨wb, 1, none⟩ = some vd := (blk_cell hblk 1).trans rfl
  have wf := blk_frozen hblk
  have HBLK := hid hblk
  have HOD := hid hod
  have HOWN := hid hown
  have HVG := hid hvG
  subst hvd
  clear hblk hod hown hvG
  go_enter Tryz.func82, Tryz.ntmps82
  go_wp2_with fail
  refine (mark_any Ds.length w (by omega)).mono ?_
  rintro e wA ⟨rfl, hbA⟩
  have hsA := hbA.size
  have HBA := hid hbA
  clear hbA w1 wf
  go_upto_block 0 with fail
  have x0 : (wA.alloc (.cells #[.int .i64 0, .int .i64 0, .int .i64 0, .int .i64 0, .int .i64 0, .int .i64 (-1000 - (Ds.length : Int) / 4), .int .i64 0, .bool false] 49)).cell? ⟨wA.heap.size, 0, none⟩ = some (.int .i64 0) := by simp [go_sem]
  have x1 : (wA.alloc (.cells #[.int .i64 0, .int .i64 0, .int .i64 0, .int .i64 0, .int .i64 0, .int .i64 (-1000 - (Ds.length : Int) / 4), .int .i64 0, .bool false] 49)).cell? ⟨wA.heap.size, 1, none⟩ = some (.int .i64 0) := by simp [go_sem]
  have x2 : (wA.alloc (.cells #[.int .i64 0, .int .i64 0, .int .i64 0, .int .i64 0, .int .i64 0, .int .i64 (-1000 - (Ds.length : Int) / 4), .int .i64 0, .bool false] 49)).cell? ⟨wA.heap.size, 2, none⟩ = some (.int .i64 0) := by simp [go_sem]
  have x3 : (wA.alloc (.cells #[.int .i64 0, .int .i64 0, .int .i64 0, .int .i64 0, .int .i64 0, .int .i64 (-1000 - (Ds.length : Int) / 4), .int .i64 0, .bool false] 49)).cell? ⟨wA.heap.size, 3, none⟩ = some (.int .i64 0) := by simp [go_sem]
  have x4 : (wA.alloc (.cells #[.int .i64 0, .int .i64 0, .int .i64 0, .int .i64 0, .int .i64 0, .int .i64 (-1000 - (Ds.length : Int) / 4), .int .i64 0, .bool false] 49)).cell? ⟨wA.heap.size, 4, none⟩ = some (.int .i64 0) := by simp [go_sem]
  have x5 : (wA.alloc (.cells #[.int .i64 0, .int .i64 0, .int .i64 0, .int .i64 0, .int .i64 0, .int .i64 (-1000 - (Ds.length : Int) / 4), .int .i64 0, .bool false] 49)).cell? ⟨wA.heap.size, 5, none⟩ = some (.int .i64 (-1000 - (Ds.length : Int) / 4)) := by simp [go_sem]
  have x6 : (wA.alloc (.cells #[.int .i64 0, .int .i64 0, .int .i64 0, .int .i64 0, .int .i64 0, .int .i64 (-1000 - (Ds.length : Int) / 4), .int .i64 0, .bool false] 49)).cell? ⟨wA.heap.size, 6, none⟩ = some (.int .i64 0) := by simp [go_sem]
  have x7 : (wA.alloc (.cells #[.int .i64 0, .int .i64 0, .int .i64 0, .int .i64 0, .int .i64 0, .int .i64 (-1000 - (Ds.length : Int) / 4), .int .i64 0, .bool false] 49)).cell? ⟨wA.heap.size, 7, none⟩ = some (.bool false) := by simp [go_sem]
  have hbX : Below wA.heap.size wA (wA.alloc (.cells #[.int .i64 0, .int .i64 0, .int .i64 0, .int .i64 0, .int .i64 0, .int .i64 (-1000 - (Ds.length : Int) / 4), .int .i64 0, .bool false] 49)) := bel
  have hsX : (wA.alloc (.cells #[.int .i64 0, .int .i64 0, .int .i64 0, .int .i64 0, .int .i64 0, .int .i64 (-1000 - (Ds.length : Int) / 4), .int .i64 0, .bool false] 49)).heap.size = wA.heap.size + 1 := World.size_alloc _ _
  generalize wA.alloc (.cells #[.int .i64 0, .int .i64 0, .int .i64 0, .int .i64 0, .int .i64 0, .int .i64 (-1000 - (Ds.length : Int) / 4), .int .i64 0, .bool false] 49) = X at x0 x1 x2 x3 x4 x5 x6 x7 hbX hsX ⊢
  have hBX := Ext.trans HBA.out hbX
  have HBX := hid hBX
  have HX := hid (own_to HOWN.out hBX)
  have hvl : ∀ g, v.ownBlock = some g → G0 ≤ g ∧ g < w.heap.size := fun g hg => HOWN.out.lt g hg
  have HVL := hid hvl
  clear hbX hBX hvl
  go_cut [] from 15 to 24 (fun wx => wx.ownsRow G0 49 8 v n (marks (markRow Ds.length) n) ∧ X.grownBy wx v.ownBlock)
  case first =>
    obtain ⟨hxl, ⟨hv, hn0⟩ | ⟨g, cap, cur, hv, hb, hg, hnc, hcm, hcs, htk⟩⟩ := HX.out
    · subst hv hn0
      clear hxl
      go_wp2_with fail
      go_loopw [5] (fun i wr => i = .int .i64 0 ∧ wr = X) (fun _ _ => 0)
      case atStart => exact ⟨rfl, rfl⟩
      case round =>
        obtain ⟨rfl, rfl⟩ := hrel
        go_wp2
        go_meet
        exact ⟨World.ownsRow_nil _ _ _ _, gb_refl _ _⟩
    · subst hv
      have hvg := HVL.out g rfl
      clear hxl htk
      have HG := hid hg
      clear hg
      go_wp2_with fail
      go_loopw [5] (fun i wr => ∃ (k : Nat) (cu : Array Value), k ≤ n ∧ i = .int .i64 k ∧ wr.heap[g]? = some (.cells cu 49 (0, 0)) ∧ cu.size = cap * 8 ∧ (∀ j, j < k * 8 → cu[j]? = (encRow (markRow Ds.length))[j % 8]?) ∧ X.grownBy wr (some g)) (fun i _ => n - (intOf i).toNat)
      case atStart => exact ⟨0, cur, Nat.zero_le _, rfl, HG.out, hcs, fun j hj => absurd hj (by omega), gb_refl _ _⟩
      case round =>
        obtain ⟨k, cu, hk, rfl, hcu, hcz, hall, hgr⟩ := hrel
        obtain ⟨wk, hwk⟩ : ∃ wk, wk = wr := ⟨_, rfl⟩
        subst hwk
        have HCU := hid hcu
        have HALL := hid hall
        have HGR := hid hgr
        by_cases hlt : k < n
        · have zk : (k : Int) < (n : Int) := by omega
          have hk8 : k * 8 + 8 ≤ cu.size := by rw [hcz]; have : (k + 1) * 8 ≤ cap * 8 := Nat.mul_le_mul_right _ (by omega); omega
          have hne : ∀ e : some wA.heap.size = some g, False := fun e => by cases e; omega
          have s0 : wk.cell? ⟨g, k * 8, none⟩ = some cu[k * 8] := (blk_cell hcu _).trans (Array.getElem?_eq_getElem (by omega))
          have s1 : wk.cell? ⟨g, k * 8 + 1, none⟩ = some cu[k * 8 + 1] := (blk_cell hcu _).trans (Array.getElem?_eq_getElem (by omega))
          have s2 : wk.cell? ⟨g, k * 8 + 2, none⟩ = some cu[k * 8 + 2] := (blk_cell hcu _).trans (Array.getElem?_eq_getElem (by omega))
          have s3 : wk.cell? ⟨g, k * 8 + 3, none⟩ = some cu[k * 8 + 3] := (blk_cell hcu _).trans (Array.getElem?_eq_getElem (by omega))
          have s4 : wk.cell? ⟨g, k * 8 + 4, none⟩ = some cu[k * 8 + 4] := (blk_cell hcu _).trans (Array.getElem?_eq_getElem (by omega))
          have s5 : wk.cell? ⟨g, k * 8 + 5, none⟩ = some cu[k * 8 + 5] := (blk_cell hcu _).trans (Array.getElem?_eq_getElem (by omega))
          have s6 : wk.cell? ⟨g, k * 8 + 6, none⟩ = some cu[k * 8 + 6] := (blk_cell hcu _).trans (Array.getElem?_eq_getElem (by omega))
          have s7 : wk.cell? ⟨g, k * 8 + 7, none⟩ = some cu[k * 8 + 7] := (blk_cell hcu _).trans (Array.getElem?_eq_getElem (by omega))
          have y0 := hgr.cell x0 (fun e => by have := Option.some.inj e; simp only at this; omega)
          have y1 := hgr.cell x1 (fun e => by have := Option.some.inj e; simp only at this; omega)
          have y2 := hgr.cell x2 (fun e => by have := Option.some.inj e; simp only at this; omega)
          have y3 := hgr.cell x3 (fun e => by have := Option.some.inj e; simp only at this; omega)
          have y4 := hgr.cell x4 (fun e => by have := Option.some.inj e; simp only at this; omega)
          have y5 := hgr.cell x5 (fun e => by have := Option.some.inj e; simp only at this; omega)
          have y6 := hgr.cell x6 (fun e => by have := Option.some.inj e; simp only at this; omega)
          have y7 := hgr.cell x7 (fun e => by have := Option.some.inj e; simp only at this; omega)
          have sf := blk_frozen hcu
          have hnx : ¬ wA.heap.size = g := by omega
          have hnx2 : ¬ g = wA.heap.size := by omega
          clear hcu hall hgr
          go_wp2
          refine ⟨⟨k + 1, _, by omega, by go_num, (set_blk (set_blk (set_blk (set_blk (set_blk (set_blk (set_blk (set_blk HCU.out (k * 8) (.int .i64 0)) (k * 8 + 1) (.int .i64 0)) (k * 8 + 2) (.int .i64 0)) (k * 8 + 3) (.int .i64 0)) (k * 8 + 4) (.int .i64 0)) (k * 8 + 5) (.int .i64 (-1000 - (Ds.length : Int) / 4))) (k * 8 + 6) (.int .i64 0)) (k * 8 + 7) (.bool false)), by simp [hcz], fun j hj => ?_, (gb_set (gb_set (gb_set (gb_set (gb_set (gb_set (gb_set (gb_set HGR.out (k * 8) (.int .i64 0)) (k * 8 + 1) (.int .i64 0)) (k * 8 + 2) (.int .i64 0)) (k * 8 + 3) (.int .i64 0)) (k * 8 + 4) (.int .i64 0)) (k * 8 + 5) (.int .i64 (-1000 - (Ds.length : Int) / 4))) (k * 8 + 6) (.int .i64 0)) (k * 8 + 7) (.bool false))⟩, by simp [intOf]; omega⟩
          rw [set8_get _ _ _ _ _ _ _ _ _ _ hk8]
          by_cases h1 : j < k * 8
          · rw [if_pos h1]; exact HALL.out j h1
          · rw [if_neg h1, if_pos (by omega), show j % 8 = j - k * 8 by omega]; rfl
        · have zk : ¬ (k : Int) < (n : Int) := by omega
          have hkn : k = n := by omega
          subst hkn
          clear hcu hall hgr
          go_wp2
          go_meet
          exact ⟨own_loop hnc hcm hb HCU.out hcz HALL.out, HGR.out⟩
  case rest =>
    obtain ⟨hm, hg⟩ := hcut
    have hs0 := hg.size
    have hvX : v.ownBlock ≠ some wA.heap.size := fun e => by have := HVL.out _ e; omega
    have hvW : v.ownBlock ≠ some wb := fun e => by have := HVL.out _ e; omega
    have a0 := hg.cell x0 (fun e => hvX e.symm)
    have a1 := hg.cell x1 (fun e => hvX e.symm)
    have a2 := hg.cell x2 (fun e => hvX e.symm)
    have a3 := hg.cell x3 (fun e => hvX e.symm)
    have a4 := hg.cell x4 (fun e => hvX e.symm)
    have a5 := hg.cell x5 (fun e => hvX e.symm)
    have a6 := hg.cell x6 (fun e => hvX e.symm)
    have a7 := hg.cell x7 (fun e => hvX e.symm)
    have HW := hid ((hg.block wb (by have := HBX.out.size; omega) (fun e => hvW e.symm)).trans ((HBX.out.block wb (by omega)).trans HBLK.out))
    have HODc := hid (own_stay HOD.out fun g hgd => (hg.block g (by have := HBX.out.size; have := HVG.out g hgd; omega) (fun e => by have := HVL.out g e.symm; have := HVG.out g hgd; omega)).trans (HBX.out.block g (by have := HVG.out g hgd; omega)))
    have HM := hid hm
    have HGc := hid hg
    have hsX2 := HBX.out.size
    clear hm hg x0 x1 x2 x3 x4 x5 x6 x7
    go_upto_region 6 with (at_builtin; go_must (refine wpList_append_marks _ rfl _ _ 40 rfl G0 49 ir0 _ 64 Tryz.underlying40 hir irz0 irz1 irz2 rfl (markRow Ds.length) v n rfl (HM.out.alloc (.cells #[.int .i64 0, .int .i64 0, .int .i64 0, .int .i64 0, .int .i64 0, .int .i64 (-1000 - (Ds.length : Int) / 4), .int .i64 0, .bool false] 49)) ⟨wc.heap.size, 0, none⟩ 1 1 rfl (by intro j u hj; exact cell_new_list wc [.int .i64 0, .int .i64 0, .int .i64 0, .int .i64 0, .int .i64 0, .int .i64 (-1000 - (Ds.length : Int) / 4), .int .i64 0, .bool false] _ j u hj) (by unfold maxLen; omega) (by omega) (by rw [World.size_alloc]; omega) ?_; intro v1 w1 hown1 hg1 hat1 hst1; have hs1 := hg1.size; rw [World.size_alloc] at hs1; have b0 := hg1.cell (cell_past (w := wc) a0) (fun e => hvX e.symm); have b1 := hg1.cell (cell_past (w := wc) a1) (fun e => hvX e.symm); have b2 := hg1.cell (cell_past (w := wc) a2) (fun e => hvX e.symm); have b3 := hg1.cell (cell_past (w := wc) a3) (fun e => hvX e.symm); have b4 := hg1.cell (cell_past (w := wc) a4) (fun e => hvX e.symm); have b5 := hg1.cell (cell_past (w := wc) a5) (fun e => hvX e.symm); have b6 := hg1.cell (cell_past (w := wc) a6) (fun e => hvX e.symm); have b7 := hg1.cell (cell_past (w := wc) a7) (fun e => hvX e.symm); have HV1 := hid (hst1 v n (HM.out.alloc (.cells #[.int .i64 0, .int .i64 0, .int .i64 0, .int .i64 0, .int .i64 0, .int .i64 (-1000 - (Ds.length : Int) / 4), .int .i64 0, .bool false] 49))); have HO1 := hid hown1; have HG1 := hid hg1; have HAT1 := hid hat1; have HST1 := hid hst1; clear hown1 hg1 hat1 hst1 a0 a1 a2 a3 a4 a5 a6 a7))
    go_upto_region 7 with (at_builtin; go_must (refine wpList_append_marks _ rfl _ _ 40 rfl G0 49 ir0 _ 64 Tryz.underlying40 hir irz0 irz1 irz2 rfl (markRow Ds.length) v n rfl (HV1.out.alloc (.cells #[.int .i64 0, .int .i64 0, .int .i64 0, .int .i64 0, .int .i64 0, .int .i64 (-1000 - (Ds.length : Int) / 4), .int .i64 0, .bool false, .int .i64 0, .int .i64 0, .int .i64 0, .int .i64 0, .int .i64 0, .int .i64 (-1000 - (Ds.length : Int) / 4), .int .i64 0, .bool false] 49)) ⟨w1.heap.size, 0, none⟩ 2 2 rfl (by intro j u hj; exact cell_new_list w1 [.int .i64 0, .int .i64 0, .int .i64 0, .int .i64 0, .int .i64 0, .int .i64 (-1000 - (Ds.length : Int) / 4), .int .i64 0, .bool false, .int .i64 0, .int .i64 0, .int .i64 0, .int .i64 0, .int .i64 0, .int .i64 (-1000 - (Ds.length : Int) / 4), .int .i64 0, .bool false] _ j u hj) (by unfold maxLen; omega) (by omega) (by rw [World.size_alloc]; omega) ?_; intro v2 w2 hown2 hg2 hat2 hst2; have hs2 := hg2.size; rw [World.size_alloc] at hs2; have c0 := hg2.cell (cell_past (w := w1) b0) (fun e => hvX e.symm); have c1 := hg2.cell (cell_past (w := w1) b1) (fun e => hvX e.symm); have c2 := hg2.cell (cell_past (w := w1) b2) (fun e => hvX e.symm); have c3 := hg2.cell (cell_past (w := w1) b3) (fun e => hvX e.symm); have c4 := hg2.cell (cell_past (w := w1) b4) (fun e => hvX e.symm); have c5 := hg2.cell (cell_past (w := w1) b5) (fun e => hvX e.symm); have c6 := hg2.cell (cell_past (w := w1) b6) (fun e => hvX e.symm); have c7 := hg2.cell (cell_past (w := w1) b7) (fun e => hvX e.symm); have HV2 := hid (hst2 v n (HV1.out.alloc (.cells #[.int .i64 0, .int .i64 0, .int .i64 0, .int .i64 0, .int .i64 0, .int .i64 (-1000 - (Ds.length : Int) / 4), .int .i64 0, .bool false, .int .i64 0, .int .i64 0, .int .i64 0, .int .i64 0, .int .i64 0, .int .i64 (-1000 - (Ds.length : Int) / 4), .int .i64 0, .bool false] 49))); have HO2 := hid hown2; have HG2 := hid hg2; have HAT2 := hid hat2; have HST2 := hid hst2; clear hown2 hg2 hat2 hst2 b0 b1 b2 b3 b4 b5 b6 b7))
    go_upto_region 8 with (at_builtin; go_must (refine wpList_append_marks _ rfl _ _ 40 rfl G0 49 ir0 _ 64 Tryz.underlying40 hir irz0 irz1 irz2 rfl (markRow Ds.length) v n rfl (HV2.out.alloc (.cells #[.int .i64 0, .int .i64 0, .int .i64 0, .int .i64 0, .int .i64 0, .int .i64 (-1000 - (Ds.length : Int) / 4), .int .i64 0, .bool false, .int .i64 0, .int .i64 0, .int .i64 0, .int .i64 0, .int .i64 0, .int .i64 (-1000 - (Ds.length : Int) / 4), .int .i64 0, .bool false, .int .i64 0, .int .i64 0, .int .i64 0, .int .i64 0, .int .i64 0, .int .i64 (-1000 - (Ds.length : Int) / 4), .int .i64 0, .bool false] 49)) ⟨w2.heap.size, 0, none⟩ 3 3 rfl (by intro j u hj; exact cell_new_list w2 [.int .i64 0, .int .i64 0, .int .i64 0, .int .i64 0, .int .i64 0, .int .i64 (-1000 - (Ds.length : Int) / 4), .int .i64 0, .bool false, .int .i64 0, .int .i64 0, .int .i64 0, .int .i64 0, .int .i64 0, .int .i64 (-1000 - (Ds.length : Int) / 4), .int .i64 0, .bool false, .int .i64 0, .int .i64 0, .int .i64 0, .int .i64 0, .int .i64 0, .int .i64 (-1000 - (Ds.length : Int) / 4), .int .i64 0, .bool false] _ j u hj) (by unfold maxLen; omega) (by omega) (by rw [World.size_alloc]; omega) ?_; intro v3 w3 hown3 hg3 hat3 hst3; have hs3 := hg3.size; rw [World.size_alloc] at hs3; have d0 := hg3.cell (cell_past (w := w2) c0) (fun e => hvX e.symm); have d1 := hg3.cell (cell_past (w := w2) c1) (fun e => hvX e.symm); have d2 := hg3.cell (cell_past (w := w2) c2) (fun e => hvX e.symm); have d3 := hg3.cell (cell_past (w := w2) c3) (fun e => hvX e.symm); have d4 := hg3.cell (cell_past (w := w2) c4) (fun e => hvX e.symm); have d5 := hg3.cell (cell_past (w := w2) c5) (fun e => hvX e.symm); have d6 := hg3.cell (cell_past (w := w2) c6) (fun e => hvX e.symm); have d7 := hg3.cell (cell_past (w := w2) c7) (fun e => hvX e.symm); have HV3 := hid (hst3 v n (HV2.out.alloc (.cells #[.int .i64 0, .int .i64 0, .int .i64 0, .int .i64 0, .int .i64 0, .int .i64 (-1000 - (Ds.length : Int) / 4), .int .i64 0, .bool false, .int .i64 0, .int .i64 0, .int .i64 0, .int .i64 0, .int .i64 0, .int .i64 (-1000 - (Ds.length : Int) / 4), .int .i64 0, .bool false, .int .i64 0, .int .i64 0, .int .i64 0, .int .i64 0, .int .i64 0, .int .i64 (-1000 - (Ds.length : Int) / 4), .int .i64 0, .bool false] 49))); have HO3 := hid hown3; have HG3 := hid hg3; have HAT3 := hid hat3; have HST3 := hid hst3; clear hown3 hg3 hat3 hst3 c0 c1 c2 c3 c4 c5 c6 c7))
    have HV1b := hid (HST3.out _ _ ((HST2.out _ _ (HO1.out.alloc _)).alloc _))
    have HV2b := hid (HST3.out _ _ (HO2.out.alloc _))
    have HK := hid (show ∀ b, b < wc.heap.size → v.ownBlock ≠ some b → w3.heap[b]? = wc.heap[b]? from fun b hb hne =>
      (HG3.out.block b (by rw [World.size_alloc]; omega) (fun e => hne e.symm)).trans ((Below.heap_alloc _ _ _ (by omega)).trans ((HG2.out.block b (by rw [World.size_alloc]; omega) (fun e => hne e.symm)).trans ((Below.heap_alloc _ _ _ (by omega)).trans ((HG1.out.block b (by rw [World.size_alloc]; omega) (fun e => hne e.symm)).trans (Below.heap_alloc _ _ _ (by omega)))))))
    have HO3w := hid (show w3.os = w.os ∧ w3.tape = w.tape ∧ w3.output = w.output from ⟨HG3.out.os.trans (HG2.out.os.trans (HG1.out.os.trans (HGc.out.os.trans HBX.out.os))), HG3.out.tape.trans (HG2.out.tape.trans (HG1.out.tape.trans (HGc.out.tape.trans HBX.out.tape))), HG3.out.output.trans (HG2.out.output.trans (HG1.out.output.trans (HGc.out.output.trans HBX.out.output)))⟩)
    have HFw := hid (show ∀ b, b < w.heap.size → v.ownBlock ≠ some b → w3.heap[b]? = w.heap[b]? from fun b hb hne => (HK.out b (by omega) hne).trans ((HGc.out.block b (by omega) (fun e => hne e.symm)).trans (HBX.out.block b hb)))
    have HW3 := hid ((HK.out wb (by omega) hvW).trans HW.out)
    have HOD3 := hid (own_stay HODc.out fun g hgd => HK.out g (by have := HVG.out g hgd; omega) (fun e => by have := HVL.out g e; have := HVG.out g hgd; omega))
    have hdw : (Value.slice da Ds.length dc).ownBlock ≠ some wb := fun e => by
      obtain ⟨_, ⟨h, _⟩ | ⟨g, cap, cur, h, _, hg, _⟩⟩ := HOD.out
      · rw [h] at e; cases e
      · rw [h] at e
        have e2 : g = wb := by simpa [Value.ownBlock] using e
        rw [e2, HBLK.out] at hg
        cases hg
    have q1 : w3.cell? ⟨wb, 1, none⟩ = some (.slice da Ds.length dc) := (blk_cell HW3.out 1).trans rfl
    have qf := blk_frozen HW3.out
    obtain ⟨sa, sc, hv0, _, _⟩ := own_slice HV3.out
    obtain ⟨sa1, sc1, hv1, _, _⟩ := own_slice HV1b.out
    obtain ⟨sa2, sc2, hv2, _, _⟩ := own_slice HV2b.out
    obtain ⟨sa3, sc3, hv3, _, _⟩ := own_slice HO3.out
    have HV3' := hid HV3.out
    have HO3' := hid HO3.out
    clear HST1 HST2 HST3 HG1 HG2 HG3 HAT1 HAT2 HAT3 HV1 HV2 HO1 HO2 HM
    subst hv0 hv1 hv2 hv3
    clear d0 d1 d2 d3 d4 d5 d6 d7
    go_wp2_with (at_builtin; go_must (refine wpList_append_own_at _ rfl _ _ 81 rfl B 40 is0 _ 1 24 Tryz.underlying81 his isz0 isz1 isz2 rfl (by decide) _ _ _ rfl (HOD3.out.alloc (.cells #[.slice sa n sc, .slice sa1 (n + 1) sc1, .slice sa2 (n + 2) sc2, .slice sa3 (n + 3) sc3] 40)) ⟨w3.heap.size, 0, none⟩ 4 4 [.slice sa n sc, .slice sa1 (n + 1) sc1, .slice sa2 (n + 2) sc2, .slice sa3 (n + 3) sc3] rfl rfl (cell_new_list w3 [.slice sa n sc, .slice sa1 (n + 1) sc1, .slice sa2 (n + 2) sc2, .slice sa3 (n + 3) sc3] _) (by intro u hu; simp only [List.mem_cons, List.not_mem_nil, or_false] at hu; rcases hu with rfl | rfl | rfl | rfl <;> rfl) (by unfold maxLen; omega) hDl (by rw [World.size_alloc]; omega) ?_; intro vd' w4 hown4 hg4 hnil4 hat4; have HO4 := hid hown4; have HG4 := hid hg4; have HAT4 := hid hat4; have HW4 := hid (show w4.heap[wb]? = some (.cells #[vl, .slice da Ds.length dc] 85 (0, 0)) from (hg4.block wb (by rw [World.size_alloc]; omega) (fun e => hdw e.symm)).trans ((Below.heap_alloc _ _ _ (by omega)).trans HW3.out)); have q4 : w4.cell? ⟨wb, 1, none⟩ = some (.slice da Ds.length dc) := (blk_cell HW4.out 1).trans rfl; have qf4 := blk_frozen HW4.out; obtain ⟨ea, ec, hvd', _, _⟩ := own_slice hown4; have hs4 := hg4.size; rw [World.size_alloc] at hs4; subst hvd'; clear hown4 hg4 hnil4 hat4))
    have g4 := hid (show (w3.alloc (.cells #[.slice sa n sc, .slice sa1 (n + 1) sc1, .slice sa2 (n + 2) sc2, .slice sa3 (n + 3) sc3] 40)).grownBy w4 (Value.slice da Ds.length dc).ownBlock from HG4.out)
    have at4 := hid (show (Value.slice ea (Ds.length + 4) ec).ownBlock = (Value.slice da Ds.length dc).ownBlock ∨ (Value.slice ea (Ds.length + 4) ec).ownBlock = some (w3.alloc (.cells #[.slice sa n sc, .slice sa1 (n + 1) sc1, .slice sa2 (n + 2) sc2, .slice sa3 (n + 3) sc3] 40)).heap.size from HAT4.out)
    refine bodyPost_end (results_none rfl _ _ _) rfl ⟨rfl, ?_⟩
    have hk4 : ∀ b, b < w3.heap.size → (Value.slice da Ds.length dc).ownBlock ≠ some b → w4.heap[b]? = w3.heap[b]? := fun b hb hne =>
      (g4.out.block b (by rw [World.size_alloc]; omega) (fun e => hne e.symm)).trans (Below.heap_alloc _ _ _ hb)
    have hne4 : ∀ g, (Value.slice ea (Ds.length + 4) ec).ownBlock = some g → g ≠ wb := fun g hg e => by
      rcases at4.out with h | h
      · exact hdw (h.symm.trans (hg.trans (by rw [e])))
      · rw [h, World.size_alloc] at hg; cases hg; omega
    have hrow : ∀ {u : Value} {k : Nat}, w3.ownsRow G0 49 8 u k (marks (markRow Ds.length) k) → (w4.setCell ⟨wb, 1, none⟩ (.slice ea (Ds.length + 4) ec)).ownsRow G0 49 8 u k (marks (markRow Ds.length) k) := fun {u k} h =>
      row_set (own_stay h fun g hg => hk4 g (h.lt g hg).2 (fun e => by have := HVG.out g e; have := (h.lt g hg).1; omega)) _ _ hwG
    have hse : Below 0 w4 (w4.setCell ⟨wb, 1, none⟩ (.slice ea (Ds.length + 4) ec)) := (Below.refl 0 w4).setCell (Nat.zero_le _) _
    refine ⟨.slice ea (Ds.length + 4) ec, ⟨sa, n, sc⟩, ⟨sa1, n + 1, sc1⟩, ⟨sa2, n + 2, sc2⟩, ⟨sa3, n + 3, sc3⟩, rfl, rfl, rfl, rfl, set_blk HW4.out 1 _, ?_, ?_, ?_, ?_, ?_, ?_, ?_, ?_⟩
    · have h := own_stay (w1 := w4.setCell ⟨wb, 1, none⟩ (.slice ea (Ds.length + 4) ec)) HO4.out fun g hg => Below.heap_setCell _ _ _ _ (hne4 g hg)
      rw [List.length_append, List.flatMap_append]
      exact h
    · rcases at4.out with h | h
      · exact .inl h
      · exact .inr ⟨_, h, by rw [World.size_alloc]; omega⟩
    · intro d hd
      simp only [List.mem_cons, List.not_mem_nil, or_false] at hd
      rcases hd with rfl | rfl | rfl | rfl
      · exact hrow HV3'.out
      · exact hrow HV1b.out
      · exact hrow HV2b.out
      · exact hrow HO3'.out
    · exact hse.os.trans (g4.out.os.trans HO3w.out.1)
    · exact hse.tape.trans (g4.out.tape.trans HO3w.out.2.1)
    · exact hse.output.trans (g4.out.output.trans HO3w.out.2.2)
    · rw [World.size_setCell]; omega
    · intro b hb h1 h2 h3
      exact (Below.heap_setCell _ _ _ _ h1).trans ((hk4 b (by omega) h2).trans (HFw.out b hb h3))
end Go.Proofs.YtmkjlhplgcifiaaGreat
