/-
  table.ofPod: the rows about a pod (In).
-/
import Derived.Test.YtmkjlhplgcifiaaGreatH18
import Derived.Laws.StructEq
import Derived.MapKept
namespace Go.Proofs.YtmkjlhplgcifiaaGreat
open Go.ChangeShapes Go.WideShapes Go.ChangeAt Go.RowKit
set_option linter.unusedVariables false
set_option linter.unusedSimpArgs false
attribute [local simp] World.cell?_grow World.cell?_alloc_there
attribute [local go_sem] World.cell?_grow World.cell?_alloc_there eqg_blk std_blk eqg_pod std_pod eqg_sel std_sel eqg_prt std_prt eqg_row std_row
attribute [local go_sem ↓] eql_blk eql_sel neq_sel eql_prt eql_pod met_in1 met_in2 met_re1 met_re2 met_has1 met_has2 met_bl1 met_bl2 neq_row
set_option maxRecDepth 100000 in
set_option maxHeartbeats 2000000 in
theorem ofPod_in (c : DClu) (p : DPod) (pa qa : Option Addr) (pc qc : Nat) (w : World) (hp : rdPods w.heap.size w pa c.pods) (hq : rdPols w.heap.size w qa c.pols) (hc : cluOk c) (hpl : c.pods.length ≤ 8) (hql : c.pols.length ≤ 4) (hpp : podOk p = true) :
    Calls Tryz.prog 100 #[.agg #[.slice pa c.pods.length pc, .slice qa c.pols.length qc], .int .i64 2, .agg #[.int .i64 p.host, .int .i64 p.ip, .int .i64 p.space, .int .i64 p.labels]] w
      fun e w' => (∃ (a : Option Addr) (cc : Nat) (L : List DRow), e = .returned (.slice a L.length cc) ∧ PodRows c 2 p L ∧ rdRows w'.heap.size w' a L) ∧ Below w.heap.size w w' := by
  have HP := hid hp
  have HQ := hid hq
  have HC := hid hc
  have HPP := hid hpp
  have hip := (podOk_true.1 hpp).2.1
  obtain ⟨l, hl⟩ : ∃ l, l = c.pols.filter (applies 2 p) := ⟨_, rfl⟩
  have hll : l.length ≤ 4 := by rw [hl]; exact Nat.le_trans (List.length_filter_le _ _) hql
  have HL := hid hl
  have HOK := hid (show ∀ q ∈ l, polOk q = true from fun q hq => by rw [hl] at hq; exact hc.2 q (List.mem_filter.1 hq).1)
  have HAR := hid (show allowRows c 2 p = l.flatMap (polRows c.pods 2 p) by rw [hl]; rfl)
  clear hp hq hc hpp hl
  obtain ⟨i0, hi, iz0, iz1, iz2⟩ := info_parts info_row
  by_cases hn : l.length = 0
  · have h2 := len_zero hn
    go_enter Tryz.func100, Tryz.ntmps100
    go_wp2_with (go_at_call 94; refine (applying_in p c.pols _ _ _ (rdPols.to HQ.out bel) HC.out.2 HPP.out).mono ?_; rw [← HL.out]; rintro e w1 ⟨⟨a1, c1, rfl, hr1⟩, hb1⟩; clear hr1)
    go_ret
    exact ⟨⟨none, 0, [], rfl, .inl ⟨by rw [← HL.out]; exact List.length_eq_zero_iff.1 hn, rfl⟩, by simp, fun i x hx => by simp at hx⟩, bel⟩
  · have h2 := len_nonzero hn
    go_enter Tryz.func100, Tryz.ntmps100
    go_wp2_with (first
      | (go_at_call 94; refine (applying_in p c.pols _ _ _ (rdPols.to HQ.out bel) HC.out.2 HPP.out).mono ?_; rw [← HL.out]; rintro e w1 ⟨⟨a1, c1, rfl, hr1⟩, hb1⟩; have HR1 := hid hr1; have k0 : w1.cell? ⟨w.heap.size, 0, none⟩ = some (.slice pa c.pods.length pc) := cell_to (by simp [go_sem]) hb1; have k1 : w1.cell? ⟨w.heap.size + 1, 1, none⟩ = some (.int .i64 p.ip) := cell_to (by simp [go_sem]) hb1; have hz1 := hb_lt hb1; clear hr1)
      | (go_at_call 133; refine (one_any _ _ hip.1 hip.2).mono ?_; rintro e w2 ⟨rfl, hb2⟩))
    have hlen := HR1.out.1
    have hBW : Below w.heap.size w (w2.alloc (.cells #[.int .i64 p.ip, .int .i64 32] 47)) := bel
    have s0 : (w2.alloc (.cells #[.int .i64 p.ip, .int .i64 32] 47)).cell? ⟨w.heap.size, 0, none⟩ = some (.slice pa c.pods.length pc) := cell_past (cell_to k0 hb2)
    have s1 : (w2.alloc (.cells #[.int .i64 p.ip, .int .i64 32] 47)).cell? ⟨w2.heap.size, 0, none⟩ = some (.int .i64 p.ip) := by simp [go_sem]
    have s2 : (w2.alloc (.cells #[.int .i64 p.ip, .int .i64 32] 47)).cell? ⟨w2.heap.size, 1, none⟩ = some (.int .i64 32) := by simp [go_sem]
    have HR := hid (rdPols.to HR1.out (show Below w1.heap.size w1 (w2.alloc (.cells #[.int .i64 p.ip, .int .i64 32] 47)) from hb2.alloc hb2.size _))
    generalize w2.alloc (.cells #[.int .i64 p.ip, .int .i64 32] 47) = W at hBW s0 s1 s2 HR ⊢
    have HBa := hid hBW
    have hWs := hBW.size
    have l1 := cell_lt s1
    clear hb1 hb2 hz1 k0 k1 hBW HR1
    go_loopw [9, 27] (fun kv i wr => ∃ k : Nat, k ≤ l.length ∧ i = .int .i64 k ∧ wr.ownsRow W.heap.size 49 8 kv ((l.take k).flatMap (polRows c.pods 2 p)).length (((l.take k).flatMap (polRows c.pods 2 p)).flatMap encRow) ∧ Below W.heap.size W wr) (fun _ i _ => l.length - (intOf i).toNat)
    case atStart => exact ⟨0, Nat.zero_le _, rfl, World.ownsRow_nil _ _ _ _, Below.refl _ _⟩
    case round =>
      obtain ⟨k, hk, rfl, hown, hbw⟩ := hrel
      obtain ⟨kv0, hkv⟩ : ∃ v, v = u9 := ⟨_, rfl⟩
      obtain ⟨wa, hwa⟩ : ∃ wa, wa = wr := ⟨_, rfl⟩
      subst hkv hwa
      have HO2 := hid hown
      have HBW := hid hbw
      have HB := hid (show Below w.heap.size w wa from HBa.out.trans (hbw.mono hWs))
      have hwa := hbw.size
      have t0 := cell_to s0 hbw
      have t1 := cell_to s1 hbw
      have t2 := cell_to s2 hbw
      clear hown
      by_cases hlt : k < l.length
      · obtain ⟨q, hxk⟩ : ∃ q, l[k]? = some q := ⟨l[k], by simp [hlt]⟩
        have HX := hid hxk
        have hqo := HOK.out q (List.mem_of_getElem? hxk)
        have HQO := hid hqo
        have HT := hid (take_flat (f := polRows c.pods 2 p) hxk)
        have hPl := polRows_pre (pods := c.pods) (p := p) (way := 2) HOK.out hpl k
        have hgl := gapsOf_le (way := 2) hqo hpl
        clear hxk hqo
        obtain ⟨b, off, rfl, hb, c0, c1', c2, c3, ⟨oa, oc, c4, ho⟩, ia, ic, c5, hi2⟩ := HR.out.2 k q HX.out
        have d0 := cell_to c0 hbw
        have d1 := cell_to c1' hbw
        have d2 := cell_to c2 hbw
        have d3 := cell_to c3 hbw
        have d4 := cell_to c4 hbw
        have d5 := cell_to c5 hbw
        have HRR := hid hi2
        clear ho hi2 c0 c1' c2 c3 c4 c5
        have gW : Below W.heap.size W (wa.alloc (.cells #[.int .i64 q.space, .int .i64 q.need, .int .i64 q.ban, .int .i64 q.ways, .slice oa q.outs.length oc, .slice ia q.ins.length ic] 59)) := hbw.alloc hwa _
        have gw : Below w.heap.size w (wa.alloc (.cells #[.int .i64 q.space, .int .i64 q.need, .int .i64 q.ban, .int .i64 q.ways, .slice oa q.outs.length oc, .slice ia q.ins.length ic] 59)) := HB.out.alloc HB.out.size _
        have x0 := cell_past (o := .cells #[.int .i64 q.space, .int .i64 q.need, .int .i64 q.ban, .int .i64 q.ways, .slice oa q.outs.length oc, .slice ia q.ins.length ic] 59) t0
        have HgW := hid gW
        have Hgw := hid gw
        clear gW gw
        go_wp2_with (go_at_call 134; refine (gaps_in q _ _ _ _ _ c.pods _ _ (rdRules.to HRR.out HgW.out) (rdPods.ext Hgw.out (by have := Hgw.out.size; omega) HP.out) HC.out.1 hpl HQO.out).mono ?_; rintro e w3 ⟨⟨v3, rfl, ho3⟩, hb3⟩; obtain ⟨fa, fc, rfl, _, _⟩ := own_slice ho3; have HO3 := hid ho3; have HK := hid (own_to (HO2.out.alloc (.cells #[.int .i64 q.space, .int .i64 q.need, .int .i64 q.ban, .int .i64 q.ways, .slice oa q.outs.length oc, .slice ia q.ins.length ic] 59)) hb3); have b1 := cell_to (cell_past (o := .cells #[.int .i64 q.space, .int .i64 q.need, .int .i64 q.ban, .int .i64 q.ways, .slice oa q.outs.length oc, .slice ia q.ins.length ic] 59) t1) hb3; have b2 := cell_to (cell_past (o := .cells #[.int .i64 q.space, .int .i64 q.need, .int .i64 q.ban, .int .i64 q.ways, .slice oa q.outs.length oc, .slice ia q.ins.length ic] 59) t2) hb3; have hs3 := hb3.size; have HB3 := hid (show Below wa.heap.size wa w3 from ((Below.refl _ wa).alloc (Nat.le_refl _) _).trans (hb3.mono (by simp))); clear ho3 hb3)
        simp only [World.size_alloc] at hs3 HO3
        clear d0 d1 d2 d3 d4 d5 t0 t1 t2 x0
        go_loopw [9, 37] (fun kv i wq => ∃ j : Nat, j ≤ (gapsOf c.pods 2 q).length ∧ i = .int .i64 j ∧ wq.ownsRow W.heap.size 49 8 kv ((l.take k).flatMap (polRows c.pods 2 p) ++ ((gapsOf c.pods 2 q).take j).map (gapRow 2 p)).length (((l.take k).flatMap (polRows c.pods 2 p) ++ ((gapsOf c.pods 2 q).take j).map (gapRow 2 p)).flatMap encRow) ∧ Inv w3 kv0 wq kv) (fun _ i _ => (gapsOf c.pods 2 q).length - (intOf i).toNat)
        case atStart => exact ⟨0, Nat.zero_le _, rfl, by simpa using HK.out, Inv.refl _ _⟩
        case round =>
          obtain ⟨j, hj, rfl, hown2, hinv⟩ := hrel
          have HO4 := hid hown2
          have HI := hid hinv
          have hlow := hinv.low HO2.out (show W.heap.size ≤ w3.heap.size by omega)
          have HBL := hid hlow
          have hwbs := hinv.gr.size
          have g1 := hinv.cell (own_ne HO2.out (.inl l1)) b1
          have g2 := hinv.cell (own_ne HO2.out (.inl l1)) b2
          clear hown2 hlow
          by_cases hlt2 : j < (gapsOf c.pods 2 q).length
          · obtain ⟨g, hgj⟩ : ∃ g, (gapsOf c.pods 2 q)[j]? = some g := ⟨(gapsOf c.pods 2 q)[j], by simp [hlt2]⟩
            have HGJ := hid hgj
            obtain ⟨gf, fo, rfl, hgf, hgf2, hfc⟩ := own_at (k := 5) (fun _ => rfl) (by decide) HO3.out j g hgj
            have hne := own_ne HO2.out (b := gf) (.inr (by omega))
            have f0 : wr.cell? ⟨gf, fo + j * 5, none⟩ = some (.int .i64 g.far.base) := hinv.cell hne (hfc 0 _ rfl)
            have f1 : wr.cell? ⟨gf, fo + j * 5 + 1, none⟩ = some (.int .i64 g.far.bits) := hinv.cell hne (hfc 1 _ rfl)
            have f2 : wr.cell? ⟨gf, fo + j * 5 + 2, none⟩ = some (.int .i64 g.port.proto) := hinv.cell hne (hfc 2 _ rfl)
            have f3 : wr.cell? ⟨gf, fo + j * 5 + 3, none⟩ = some (.int .i64 g.port.lo) := hinv.cell hne (hfc 3 _ rfl)
            have f4 : wr.cell? ⟨gf, fo + j * 5 + 4, none⟩ = some (.int .i64 g.port.hi) := hinv.cell hne (hfc 4 _ rfl)
            clear hgj hfc hinv hne
            have G1 := cell_past (o := .cells #[.int .i64 g.far.base, .int .i64 g.far.bits, .int .i64 g.port.proto, .int .i64 g.port.lo, .int .i64 g.port.hi] 187) g1
            have G2 := cell_past (o := .cells #[.int .i64 g.far.base, .int .i64 g.far.bits, .int .i64 g.port.proto, .int .i64 g.port.lo, .int .i64 g.port.hi] 187) g2
            go_wp2_with (first
              | (go_at_call 101; refine (of_in ⟨p.ip, 32⟩ g.far g.port true _).mono ?_; rintro e w4 ⟨rfl, hb4⟩; have HO5 := hid (own_to (HO4.out.alloc (.cells #[.int .i64 g.far.base, .int .i64 g.far.bits, .int .i64 g.port.proto, .int .i64 g.port.lo, .int .i64 g.port.hi] 187)) hb4); have HI4 := hid ((HI.out.ext ((Below.refl _ wr).alloc (Nat.le_refl _) (.cells #[.int .i64 g.far.base, .int .i64 g.far.bits, .int .i64 g.port.proto, .int .i64 g.port.lo, .int .i64 g.port.hi] 187))).ext hb4); have hs4 := hb4.size; clear hb4)
              | (at_builtin; refine wpList_append_own_at _ rfl _ _ 40 rfl W.heap.size 49 i0 _ 8 64 Tryz.underlying40 hi iz0 iz1 iz2 rfl (by decide) _ _ _ rfl (HO5.out.alloc _) ⟨w4.heap.size, 0, none⟩ 1 1 [.int .i64 (mkRow 2 ⟨p.ip, 32⟩ g.far g.port true).sb, .int .i64 (mkRow 2 ⟨p.ip, 32⟩ g.far g.port true).sn, .int .i64 (mkRow 2 ⟨p.ip, 32⟩ g.far g.port true).db, .int .i64 (mkRow 2 ⟨p.ip, 32⟩ g.far g.port true).dn, .int .i64 (mkRow 2 ⟨p.ip, 32⟩ g.far g.port true).proto, .int .i64 (mkRow 2 ⟨p.ip, 32⟩ g.far g.port true).lo, .int .i64 (mkRow 2 ⟨p.ip, 32⟩ g.far g.port true).hi, .bool (mkRow 2 ⟨p.ip, 32⟩ g.far g.port true).allow] rfl rfl (cell_new_list _ [.int .i64 (mkRow 2 ⟨p.ip, 32⟩ g.far g.port true).sb, .int .i64 (mkRow 2 ⟨p.ip, 32⟩ g.far g.port true).sn, .int .i64 (mkRow 2 ⟨p.ip, 32⟩ g.far g.port true).db, .int .i64 (mkRow 2 ⟨p.ip, 32⟩ g.far g.port true).dn, .int .i64 (mkRow 2 ⟨p.ip, 32⟩ g.far g.port true).proto, .int .i64 (mkRow 2 ⟨p.ip, 32⟩ g.far g.port true).lo, .int .i64 (mkRow 2 ⟨p.ip, 32⟩ g.far g.port true).hi, .bool (mkRow 2 ⟨p.ip, 32⟩ g.far g.port true).allow] _) (encRow_one (mkRow 2 ⟨p.ip, 32⟩ g.far g.port true)) (by have := podRows_sum (S := ((gapsOf c.pods 2 q).take j).map (gapRow 2 p)) (j := j) hlt hll hPl (by rw [List.length_map, List.length_take]) hgl; unfold maxLen; omega) (by have := podRows_sum (S := ((gapsOf c.pods 2 q).take j).map (gapRow 2 p)) (j := j) hlt hll hPl (by rw [List.length_map, List.length_take]) hgl; omega) (by simp only [World.size_alloc] at hs4 ⊢; omega) ?_; intro v' w5 hown' hg5 _ hat5))
            refine ⟨⟨j + 1, by omega, by go_num, ?_, ?_⟩, by simp [intOf]; omega⟩
            · rw [List.take_add_one, HGJ.out, Option.toList_some, List.map_append, ← List.append_assoc]; exact own_snoc (enc := encRow) (x := gapRow 2 p g) hown'
            · exact (HI4.out.ext ((Below.refl _ w4).alloc (Nat.le_refl _) _)).trans (Inv.app hg5 hat5)
          · go_wp2
            have he : (gapsOf c.pods 2 q).take j = gapsOf c.pods 2 q := List.take_of_length_le (by omega)
            have ho4 := HO4.out
            rw [he] at ho4
            refine ⟨⟨k + 1, by omega, by go_num, ?_, ?_⟩, by simp [intOf]; omega⟩
            · rw [HT.out]; exact ho4
            · exact HBW.out.trans ((HB3.out.mono hwa).trans HBL.out)
      · have he : l.take k = l := List.take_of_length_le (by omega)
        have ho := HO2.out
        rw [he, ← HAR.out] at ho
        have hal := allowRows_le (way := 2) HC.out hpl hql (p := p)
        obtain ⟨ra, rc, rfl, _, hrr⟩ := own_rows ho (by omega)
        have HRW := hid hrr
        clear ho hrr
        go_wp2
        have n0 := World.new_ne
        have q1 : wa.drew.cell? ⟨w2.heap.size, 0, none⟩ = some (.int .i64 p.ip) := t1
        have q2 : wa.drew.cell? ⟨w2.heap.size, 1, none⟩ = some (.int .i64 32) := t2
        have HRD := hid (rdRows.ext (w' := wa.drew) ((Below.refl wa.heap.size wa).drew) (Nat.le_refl _) HRW.out)
        have HBD := hid (HB.out.drew)
        have hlw : w2.heap.size < wa.heap.size := by omega
        have hws := HB.out.size
        clear t0 t1 t2
        go_region_held3 (fun w' => w'.cell? ⟨w2.heap.size, 0, none⟩ = some (.int .i64 p.ip) ∧ w'.cell? ⟨w2.heap.size, 1, none⟩ = some (.int .i64 32)) (go_keep) (first
          | (go_at_call 135; refine (once_any ra rc (allowRows c 2 p) wa.drew HRD.out).mono ?_; rintro e w4 ⟨⟨v4, A, rfl, ho4, hA, hAl⟩, hb4⟩; obtain ⟨a4, c4, rfl, _, _⟩ := own_slice ho4; have HO4 := hid ho4; have HA := hid hA; have HAL := hid hAl; have HB4 := hid hb4; have r1 := cell_to q1 hb4; have r2 := cell_to q2 hb4; clear ho4 hA hAl hb4)
          | (go_at_call 102; refine (allB_any w4).mono ?_; rintro e w5 ⟨rfl, hb5⟩; have HB5 := hid hb5; have y1 := cell_to r1 hb5; have y2 := cell_to r2 hb5; clear hb5)
          | (go_at_call 103; refine (everyPort_any w5).mono ?_; rintro e w6 ⟨rfl, hb6⟩; have HB6 := hid hb6; have z1 := cell_to y1 hb6; have z2 := cell_to y2 hb6; clear hb6)
          | (go_at_call 101; refine (of_in ⟨p.ip, 32⟩ ⟨0, 0⟩ ⟨0, 0, 65535⟩ false w6).mono ?_; rintro e w7 ⟨rfl, hb7⟩; have HB7 := hid hb7; have x1 := cell_to z1 hb7; have x2 := cell_to z2 hb7; have HO7 := hid (own_to (own_to (own_to HO4.out HB5.out) HB6.out) hb7); have HS7 := hid (show wa.heap.size ≤ w7.heap.size from Nat.le_trans HB4.out.size (Nat.le_trans HB5.out.size (Nat.le_trans HB6.out.size hb7.size))); clear hb7)
          | ((refine step_append_list _ (by rfl) (.tmp 54) (.tmp 60) 40 (by rfl) wa.heap.size 49 i0 _ 8 64 Tryz.underlying40 hi iz0 iz1 iz2 rfl (by decide) _ _ _ (by rfl) (HO7.out.alloc _) (some ⟨w7.heap.size, 0, none⟩) 1 1 [.int .i64 (mkRow 2 ⟨p.ip, 32⟩ ⟨0, 0⟩ ⟨0, 0, 65535⟩ false).sb, .int .i64 (mkRow 2 ⟨p.ip, 32⟩ ⟨0, 0⟩ ⟨0, 0, 65535⟩ false).sn, .int .i64 (mkRow 2 ⟨p.ip, 32⟩ ⟨0, 0⟩ ⟨0, 0, 65535⟩ false).db, .int .i64 (mkRow 2 ⟨p.ip, 32⟩ ⟨0, 0⟩ ⟨0, 0, 65535⟩ false).dn, .int .i64 (mkRow 2 ⟨p.ip, 32⟩ ⟨0, 0⟩ ⟨0, 0, 65535⟩ false).proto, .int .i64 (mkRow 2 ⟨p.ip, 32⟩ ⟨0, 0⟩ ⟨0, 0, 65535⟩ false).lo, .int .i64 (mkRow 2 ⟨p.ip, 32⟩ ⟨0, 0⟩ ⟨0, 0, 65535⟩ false).hi, .bool (mkRow 2 ⟨p.ip, 32⟩ ⟨0, 0⟩ ⟨0, 0, 65535⟩ false).allow] (by rfl) rfl (news_new w7 [.int .i64 (mkRow 2 ⟨p.ip, 32⟩ ⟨0, 0⟩ ⟨0, 0, 65535⟩ false).sb, .int .i64 (mkRow 2 ⟨p.ip, 32⟩ ⟨0, 0⟩ ⟨0, 0, 65535⟩ false).sn, .int .i64 (mkRow 2 ⟨p.ip, 32⟩ ⟨0, 0⟩ ⟨0, 0, 65535⟩ false).db, .int .i64 (mkRow 2 ⟨p.ip, 32⟩ ⟨0, 0⟩ ⟨0, 0, 65535⟩ false).dn, .int .i64 (mkRow 2 ⟨p.ip, 32⟩ ⟨0, 0⟩ ⟨0, 0, 65535⟩ false).proto, .int .i64 (mkRow 2 ⟨p.ip, 32⟩ ⟨0, 0⟩ ⟨0, 0, 65535⟩ false).lo, .int .i64 (mkRow 2 ⟨p.ip, 32⟩ ⟨0, 0⟩ ⟨0, 0, 65535⟩ false).hi, .bool (mkRow 2 ⟨p.ip, 32⟩ ⟨0, 0⟩ ⟨0, 0, 65535⟩ false).allow] _) (encRow_one (mkRow 2 ⟨p.ip, 32⟩ ⟨0, 0⟩ ⟨0, 0, 65535⟩ false)) (by have := HAL.out; unfold maxLen; omega) (by have := HAL.out; omega) (by have := HS7.out; simp; omega) ?_; intro v' w8 hown8 hg8; have m1 := grown_low hg8 HO4.out (show w2.heap.size < wa.drew.heap.size from hlw) (cell_past x1); have m2 := grown_low hg8 HO4.out (show w2.heap.size < wa.drew.heap.size from hlw) (cell_past x2); have HO8 := hid hown8; have HG8 := hid hg8; clear hown8 hg8)))
        obtain ⟨a8, c8, rfl, _, hr8⟩ := own_rows (own_snoc (enc := encRow) (x := denyRow 2 p) HO8.out) (by have := HAL.out; simp; omega)
        have HR8 := hid hr8
        clear hr8
        go_wp2
        go_ret
        refine ⟨⟨a8, c8, A ++ [denyRow 2 p], rfl, .inr ⟨fun h => hn (by rw [HL.out, h]; rfl), A, HA.out, HAL.out, rfl⟩, HR8.out⟩, ?_⟩
        refine Below.grown (Below.alloc (HBD.out.trans ((HB4.out.mono hws).trans ((HB5.out.mono (Nat.le_trans hws HB4.out.size)).trans ((HB6.out.mono (Nat.le_trans hws (Nat.le_trans HB4.out.size HB5.out.size))).trans (HB7.out.mono (Nat.le_trans hws (Nat.le_trans HB4.out.size (Nat.le_trans HB5.out.size HB6.out.size)))))))) (by have := HS7.out; omega) _) HG8.out (by have := HS7.out; simp; omega) (fun k' hk' => by have := (HO4.out.lt k' hk').1; have h9 : wa.drew.heap.size = wa.heap.size := rfl; omega)
set_option maxRecDepth 100000 in
set_option maxHeartbeats 2000000 in
theorem make_in (c : DClu) (host : Int) (pa qa : Option Addr) (pc qc : Nat) (w : World) (hp : rdPods w.heap.size w pa c.pods) (hq : rdPols w.heap.size w qa c.pols) (hc : cluOk c) (hpl : c.pods.length ≤ 8) (hql : c.pols.length ≤ 4) :
    Calls Tryz.prog 61 #[.agg #[.slice pa c.pods.length pc, .slice qa c.pols.length qc], .int .i64 host, .int .i64 2] w
      fun e w' => (∃ (a : Option Addr) (cc : Nat) (L : List DRow), e = .returned (.slice a (L ++ [lastRow]).length cc) ∧ TabRows c 2 host c.pods L ∧ rdRows w'.heap.size (hide w' (low w.heap.size)) a (L ++ [lastRow])) ∧ Below w.heap.size w w' := by
  have HP := hid hp
  have HQ := hid hq
  have HC := hid hc
  have hlen := hp.1
  have HLR := hid (show mkRow 2 ⟨0, 0⟩ ⟨0, 0⟩ ⟨0, 0, 65535⟩ true = lastRow from rfl)
  clear hp hq hc
  obtain ⟨i0, hi, iz0, iz1, iz2⟩ := info_parts info_row
  go_enter Tryz.func61, Tryz.ntmps61
  go_wp2
  have hBa : Below w.heap.size w (w.alloc (.cells #[.slice pa c.pods.length pc, .slice qa c.pols.length qc] 28)) := bel
  have s0 : (w.alloc (.cells #[.slice pa c.pods.length pc, .slice qa c.pols.length qc] 28)).cell? ⟨w.heap.size, 0, none⟩ = some (.slice pa c.pods.length pc) := by simp [go_sem]
  have s1 : (w.alloc (.cells #[.slice pa c.pods.length pc, .slice qa c.pols.length qc] 28)).cell? ⟨w.heap.size, 1, none⟩ = some (.slice qa c.pols.length qc) := by simp [go_sem]
  generalize w.alloc (.cells #[.slice pa c.pods.length pc, .slice qa c.pols.length qc] 28) = W at hBa s0 s1 ⊢
  have HBa := hid hBa
  have hWs := hBa.size
  clear hBa
  go_loopw [7, 13] (fun kv i wr => ∃ (k : Nat) (L : List DRow), k ≤ c.pods.length ∧ i = .int .i64 k ∧ wr.ownsRow W.heap.size 49 8 kv L.length (L.flatMap encRow) ∧ TabRows c 2 host (c.pods.take k) L ∧ Below W.heap.size W wr) (fun _ i _ => c.pods.length - (intOf i).toNat)
  case atStart => exact ⟨0, [], Nat.zero_le _, rfl, World.ownsRow_nil _ _ _ _, rfl, Below.refl _ _⟩
  case round =>
    obtain ⟨k, L, hk, rfl, hown, hT, hbw⟩ := hrel
    have HO2 := hid hown
    have HT := hid hT
    have HBW := hid hbw
    have HB := hid (show Below w.heap.size w wr from HBa.out.trans (hbw.mono hWs))
    have hLl := tabRows_le HC.out hpl hql hT
    rw [List.length_take] at hLl
    have t0 := cell_to s0 hbw
    have t1 := cell_to s1 hbw
    clear hT
    by_cases hlt : k < c.pods.length
    · obtain ⟨x, hxk⟩ : ∃ x, c.pods[k]? = some x := ⟨c.pods[k], by simp [hlt]⟩
      have HX := hid hxk
      have HXO := hid (HC.out.1.1 x (List.mem_of_getElem? hxk))
      have htk : c.pods.take (k + 1) = c.pods.take k ++ [x] := by rw [List.take_add_one, hxk]; rfl
      have HTK := hid htk
      clear hxk htk hown
      obtain ⟨b, off, rfl, hb, c0, c1, c2, c3⟩ := HP.out.2 k x HX.out
      have d0 := cell_to c0 HB.out
      have d1 := cell_to c1 HB.out
      have d2 := cell_to c2 HB.out
      have d3 := cell_to c3 HB.out
      clear c0 c1 c2 c3
      cases hx : (x.host == host)
      · have hne : ¬ x.host = host := by simpa using hx
        go_wp2
        exact ⟨⟨k + 1, L, by omega, by go_num, HO2.out.alloc _, by rw [HTK.out]; simpa using tabRows_snoc HT.out (p := x) (A := []) (by rw [if_neg hne]), HBW.out.alloc HBW.out.size _⟩, by simp [intOf]; omega⟩
      · have hne : x.host = host := by simpa using hx
        have HNE := hid hne
        have gw : Below w.heap.size w (wr.alloc (.cells #[.int .i64 x.host, .int .i64 x.ip, .int .i64 x.space, .int .i64 x.labels] 54)) := HB.out.alloc HB.out.size _
        have x0 := cell_past (o := (.cells #[.int .i64 x.host, .int .i64 x.ip, .int .i64 x.space, .int .i64 x.labels] 54)) t0
        have x1 := cell_past (o := (.cells #[.int .i64 x.host, .int .i64 x.ip, .int .i64 x.space, .int .i64 x.labels] 54)) t1
        have Hgw := hid gw
        clear gw hne
        go_wp2_with (first
          | (go_at_call 100; refine (ofPod_in c x _ _ _ _ _ (rdPods.ext Hgw.out Hgw.out.size HP.out) (rdPols.ext Hgw.out Hgw.out.size HQ.out) HC.out hpl hql HXO.out).mono ?_; rintro e w2 ⟨⟨a2, cc2, A, rfl, hA, hr2⟩, hb2⟩; have HA := hid hA; have HR2 := hid hr2; have hAl := podRows_le HC.out hpl hql hA; have HO3 := hid (own_to (HO2.out.alloc (.cells #[.int .i64 x.host, .int .i64 x.ip, .int .i64 x.space, .int .i64 x.labels] 54)) hb2); have hW2 : Below W.heap.size W w2 := (HBW.out.alloc HBW.out.size _).trans (hb2.mono (by have := HBW.out.size; simp; omega)); clear hA hr2 hb2)
          | (at_builtin; refine wpList_append_list _ rfl _ _ 40 rfl W.heap.size 49 i0 _ 8 64 Tryz.underlying40 hi iz0 iz1 iz2 rfl (by decide) _ _ _ rfl HO3.out a2 _ cc2 (A.flatMap encRow) rfl (oflat_len (k := 8) encRow_len _) (news_of (k := 8) encRow_len (by decide) HR2.out (fun _ _ _ => eRow_cells)) (encRows_one _) (by unfold maxLen; omega) (by omega) hW2.size ?_; intro v' w3 hown' hg3))
        refine ⟨⟨k + 1, L ++ A, by omega, by go_num, ?_, ?_, own_below hW2 hW2.size HO3.out hg3⟩, by simp [intOf]; omega⟩
        · rw [List.length_append, List.flatMap_append]; exact hown'
        · rw [HTK.out]; exact tabRows_snoc HT.out (by rw [if_pos HNE.out]; exact HA.out)
    · have he : c.pods.take k = c.pods := List.take_of_length_le (by omega)
      have hT := HT.out
      rw [he] at hT
      have HTT := hid hT
      obtain ⟨ra, rc, rfl, _, _⟩ := own_slice hown
      have M1 := hid True.intro
      clear hT hown t0 t1
      go_wp2_with (first
        | (go_at_call 102; have m1 := M1.out; refine (allB_any _).mono ?_; rintro e w4 ⟨rfl, hb4⟩; have HB4 := hid hb4; clear hb4 M1 m1)
        | (go_at_call 102; refine (allB_any _).mono ?_; rintro e w5 ⟨rfl, hb5⟩; have HB5 := hid hb5; clear hb5)
        | (go_at_call 103; refine (everyPort_any _).mono ?_; rintro e w6 ⟨rfl, hb6⟩; have HB6 := hid hb6; clear hb6)
        | (go_at_call 101; refine (of_in ⟨0, 0⟩ ⟨0, 0⟩ ⟨0, 0, 65535⟩ true _).mono ?_; rintro e w7 ⟨rfl, hb7⟩; have HB7 := hid hb7; have HO7 := hid (own_to (own_to (own_to (own_to HO2.out HB4.out) HB5.out) HB6.out) hb7); have HS7 := hid (show wr.heap.size ≤ w7.heap.size from Nat.le_trans HB4.out.size (Nat.le_trans HB5.out.size (Nat.le_trans HB6.out.size hb7.size))); have HW7 := hid (show Below W.heap.size W w7 from HBW.out.trans ((HB4.out.mono HBW.out.size).trans ((HB5.out.mono (Nat.le_trans HBW.out.size HB4.out.size)).trans ((HB6.out.mono (Nat.le_trans HBW.out.size (Nat.le_trans HB4.out.size HB5.out.size))).trans (hb7.mono (Nat.le_trans HBW.out.size (Nat.le_trans HB4.out.size (Nat.le_trans HB5.out.size HB6.out.size)))))))); clear hb7)
        | (at_builtin; refine wpList_append_own _ rfl _ _ 40 rfl W.heap.size 49 i0 _ 8 64 Tryz.underlying40 hi iz0 iz1 iz2 rfl (by decide) _ _ _ rfl (HO7.out.alloc _) ⟨w7.heap.size, 0, none⟩ 1 1 [.int .i64 (mkRow 2 ⟨0, 0⟩ ⟨0, 0⟩ ⟨0, 0, 65535⟩ true).sb, .int .i64 (mkRow 2 ⟨0, 0⟩ ⟨0, 0⟩ ⟨0, 0, 65535⟩ true).sn, .int .i64 (mkRow 2 ⟨0, 0⟩ ⟨0, 0⟩ ⟨0, 0, 65535⟩ true).db, .int .i64 (mkRow 2 ⟨0, 0⟩ ⟨0, 0⟩ ⟨0, 0, 65535⟩ true).dn, .int .i64 (mkRow 2 ⟨0, 0⟩ ⟨0, 0⟩ ⟨0, 0, 65535⟩ true).proto, .int .i64 (mkRow 2 ⟨0, 0⟩ ⟨0, 0⟩ ⟨0, 0, 65535⟩ true).lo, .int .i64 (mkRow 2 ⟨0, 0⟩ ⟨0, 0⟩ ⟨0, 0, 65535⟩ true).hi, .bool (mkRow 2 ⟨0, 0⟩ ⟨0, 0⟩ ⟨0, 0, 65535⟩ true).allow] rfl rfl (cell_new_list _ [.int .i64 (mkRow 2 ⟨0, 0⟩ ⟨0, 0⟩ ⟨0, 0, 65535⟩ true).sb, .int .i64 (mkRow 2 ⟨0, 0⟩ ⟨0, 0⟩ ⟨0, 0, 65535⟩ true).sn, .int .i64 (mkRow 2 ⟨0, 0⟩ ⟨0, 0⟩ ⟨0, 0, 65535⟩ true).db, .int .i64 (mkRow 2 ⟨0, 0⟩ ⟨0, 0⟩ ⟨0, 0, 65535⟩ true).dn, .int .i64 (mkRow 2 ⟨0, 0⟩ ⟨0, 0⟩ ⟨0, 0, 65535⟩ true).proto, .int .i64 (mkRow 2 ⟨0, 0⟩ ⟨0, 0⟩ ⟨0, 0, 65535⟩ true).lo, .int .i64 (mkRow 2 ⟨0, 0⟩ ⟨0, 0⟩ ⟨0, 0, 65535⟩ true).hi, .bool (mkRow 2 ⟨0, 0⟩ ⟨0, 0⟩ ⟨0, 0, 65535⟩ true).allow] _) (encRow_one (mkRow 2 ⟨0, 0⟩ ⟨0, 0⟩ ⟨0, 0, 65535⟩ true)) (by unfold maxLen; omega) (by omega) (by have := HW7.out.size; simp; omega) ?_; intro v' w8 hown8 hg8 _; obtain ⟨a8, c8, rfl, _, hr8⟩ := own_rows_up (own_snoc (enc := encRow) (x := lastRow) hown8) (by simp; omega) hWs; have HR8 := hid hr8; have HB8 := hid (own_below (HW7.out.alloc HW7.out.size _) (by have := HW7.out.size; simp; omega) (HO7.out.alloc _) hg8); clear hr8 hown8 hg8))
      go_ret
      exact ⟨⟨a8, c8, L, by rw [List.length_append]; rfl, HTT.out, HR8.out⟩, HBa.out.trans (HB8.out.mono hWs)⟩
def plist : List (Int × Int) := [(0, 1), (0, 2), (1, 1), (1, 2), (2, 1), (2, 2), (3, 1), (3, 2)]
def plKey (h y : Int) : Value := .agg #[.int .i64 h, .int .i64 y]
def ents : List (Int × Int) → List Value → Nat → List MapEntry
  | p :: ps, v :: vs, n => ⟨plKey p.1 p.2, v, n⟩ :: ents ps vs (n + 1)
  | _, _, _ => []
def seek (h y : Int) : List (Int × Int) → List Value → Nat → Option (Nat × Value)
  | p :: ps, v :: vs, i => if (decide (h = p.1) && decide (y = p.2)) = true then some (i, v) else seek h y ps vs (i + 1)
  | _, _, _ => none
theorem std_place : Tryz.prog.stoodInHeld 99 = false := by kernel_rfl
theorem und_place : Tryz.prog.underlying 99 = some (.struct (Tryz.prog.fieldsOf 99)) := by kernel_rfl
theorem equal_place (a b c d : Int) (w : World) : (Op.equal 99 (plKey a b) (plKey c d)).run Tryz.prog w = .ok (decide (a = c) && decide (b = d)) w := by
  show (Op.equalIn 10000 99 (.agg #[.int .i64 a, .int .i64 b]) (.agg #[.int .i64 c, .int .i64 d])).run Tryz.prog w = _
  by_cases h1 : a = c <;> by_cases h2 : b = d <;> simp [go_sem, std_place, h1, h2]
theorem check_place (e : Bool) (h y : Int) (w : World) : (Instr.checkKey e 10000 99 (plKey h y)).run Tryz.prog w = .ok () w := by kernel_rfl
theorem ask_place (h y : Int) (w : World) : ∀ (ps : List (Int × Int)) (vs : List Value) (n i : Nat), (Instr.findAsking 99 (plKey h y) (ents ps vs n) i).run Tryz.prog w = .ok (seek h y ps vs i) w
  | [], _, _, _ => by simp [ents, seek, Instr.findAsking]
  | _ :: _, [], _, _ => by simp [ents, seek, Instr.findAsking]
  | p :: ps, v :: vs, n, i => by
    simp only [ents, seek, Instr.findAsking, Sem.run_bind, equal_place, Result.andThen_ok]
    by_cases hc : (decide (h = p.1) && decide (y = p.2)) = true
    · rw [if_pos hc, if_pos hc]; rfl
    · rw [if_neg hc, if_neg hc]; exact ask_place h y w ps vs (n + 1) (i + 1)
theorem now_place (fs : Array Field) (k : Value) (p : Int × Int) (ps : List (Int × Int)) (v : Value) (vs : List Value) (n i : Nat) : Instr.findNow (.struct fs) k (ents (p :: ps) (v :: vs) n) i = none := by
  simp [ents, Instr.findNow, Instr.sameNow]
theorem find_place (h y : Int) (w : World) (ps : List (Int × Int)) (vs : List Value) (n : Nat) : (Instr.findKey 99 (plKey h y) (ents ps vs n)).run Tryz.prog w = .ok (seek h y ps vs 0) w := by
  unfold Instr.findKey
  rw [Sem.run_bind, run_underlying und_place, Result.andThen_ok]
  cases ps with
  | nil => simp [ents, seek, Instr.findNow]
  | cons p ps =>
    cases vs with
    | nil => simp [ents, seek, Instr.findNow]
    | cons v vs => rw [now_place]; exact ask_place h y w _ _ _ _
theorem und_tabs : Tryz.prog.underlying 92 = some (.map 99 40) := by kernel_rfl
theorem zero_rows (w : World) : (zeroValue 40).run Tryz.prog w = .ok (.slice none 0 0) w := by kernel_rfl
def MapAt (w : World) (r : Nat) (vs : List Value) : Prop := w.heap[r]? = some (.map (ents plist vs 0).toArray vs.length)
theorem look_place (w : World) (r : Nat) (vs : List Value) (hm : MapAt w r vs) (h y : Int) : (Instr.lookup 92 (.map (some r)) (.agg #[.int .i64 h, .int .i64 y]) true).run Tryz.prog w = .ok (.tuple #[((seek h y plist vs 0).map (·.2)).getD (.slice none 0 0), .bool (seek h y plist vs 0).isSome]) w := by
  have h1 := check_place (ents plist vs 0).toArray.isEmpty h y w
  have h2 := find_place h y w plist vs 0
  unfold plKey at h1 h2
  unfold Instr.lookup
  simp only [Sem.run_bind, run_underlying und_tabs, Result.andThen_ok, Go.run_getObj_map w r _ _ hm, h1, h2, Sem.run_pure]
  cases hs : seek h y plist vs 0 with
  | none => simp [zero_rows]
  | some q => simp
theorem look_place1 (w : World) (r : Nat) (vs : List Value) (hm : MapAt w r vs) (h y : Int) : (Instr.lookup 92 (.map (some r)) (.agg #[.int .i64 h, .int .i64 y]) false).run Tryz.prog w = .ok (((seek h y plist vs 0).map (·.2)).getD (.slice none 0 0)) w := by
  have h1 := check_place (ents plist vs 0).toArray.isEmpty h y w
  have h2 := find_place h y w plist vs 0
  unfold plKey at h1 h2
  unfold Instr.lookup
  simp only [Sem.run_bind, run_underlying und_tabs, Result.andThen_ok, Go.run_getObj_map w r _ _ hm, h1, h2, Sem.run_pure]
  cases hs : seek h y plist vs 0 with
  | none => simp [zero_rows]
  | some q => simp
theorem update_place (w : World) (r : Nat) (vs : List Value) (hm : MapAt w r vs) (h y : Int) (v : Value) (hs : seek h y plist vs 0 = none) : (Instr.mapUpdate 92 (.map (some r)) (.agg #[.int .i64 h, .int .i64 y]) v).run Tryz.prog w = .ok () { w with heap := w.heap.setIfInBounds r (.map ((ents plist vs 0).toArray.push ⟨plKey h y, v, vs.length⟩) (vs.length + 1)) } := by
  have h1 := check_place false h y w
  have h2 := find_place h y w plist vs 0
  unfold plKey at h1 h2
  unfold Instr.mapUpdate
  simp only [Sem.run_bind, run_underlying und_tabs, Result.andThen_ok, Go.run_getObj_map w r _ _ hm, h1, h2, Sem.run_pure, hs]
  exact Go.MapKept.run_setObj_map _ hm
end Go.Proofs.YtmkjlhplgcifiaaGreat
