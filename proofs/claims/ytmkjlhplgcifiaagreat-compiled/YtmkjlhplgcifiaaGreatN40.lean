/-
  palisadelaw: World.rowed, walked: a right packet.
-/
import Derived.Test.YtmkjlhplgcifiaaGreatN38
namespace Go.Proofs.YtmkjlhplgcifiaaGreat
open Go.ChangeShapes Go.WideShapes Go.ChangeAt Go.RowKit
attribute [local simp] World.cell?_grow
attribute [local go_sem] World.cell?_grow
attribute [local simp] World.cell?_alloc_there
attribute [local go_sem] World.cell?_alloc_there
attribute [local go_sem] eqg_blk std_blk eqg_pod std_pod eqg_sel std_sel eqg_prt std_prt
attribute [local go_sem ↓] eql_blk eql_sel neq_sel eql_prt eql_pod
attribute [local go_sem ↓] met_in1 met_in2 met_re1 met_re2
attribute [local go_sem ↓] met_has1 met_has2
attribute [local go_sem ↓] met_bl1 met_bl2
attribute [local go_sem] eqg_row std_row
attribute [local go_sem ↓] neq_row
set_option linter.unusedVariables false
set_option linter.unusedSimpArgs false
set_option maxRecDepth 100000 in
set_option maxHeartbeats 4000000 in
theorem rowed_any (kd on oa ob d0 d1 d2 d3 q0 q1 q2 q3 : Int) (s4 s5 s18 s19 : DSl) (k : DPkt) (c : DClu) (T : Int × Int → List DRow) (tb rb : Nat) (pa qa : Option Addr) (pc qc : Nat) (w : World) (ht : TabsAs w.heap.size w tb c T) (r0 : w.cell? ⟨rb, 0, none⟩ = some (.slice pa c.pods.length pc)) (r1 : w.cell? ⟨rb, 1, none⟩ = some (.slice qa c.pols.length qc)) (hp : rdPods w.heap.size w pa c.pods) (hq : rdPols w.heap.size w qa c.pols) (hc : cluOk c) (hpl : c.pods.length ≤ 8) (hql : c.pols.length ≤ 4) (wb B : Nat) (vl vd : Value) (Ds : List DSl) (hblk : w.heap[wb]? = some (.cells #[vl, vd] 85 (0, 0))) (hod : w.ownsRow B 40 1 vd Ds.length (Ds.flatMap encSl)) (hDl : (Ds.length + 4) * 24 ≤ 140737488355328) (hBw : B ≤ wb) (hm : (oa, ob) ∈ plist) (hk : pktOk k = true) :
    Calls Tryz.prog 51 #[.pointer (some ⟨wb, 0, none⟩), .agg #[.pointer (some ⟨tb, 0, none⟩), .pointer (some ⟨rb, 0, none⟩)], .agg #[.int .i64 kd, .int .i64 on, .int .i64 oa, .int .i64 ob, .slice s4.a s4.n s4.c, .slice s5.a s5.n s5.c, .int .i64 k.src, .int .i64 k.dst, .int .i64 k.proto, .int .i64 k.port, .int .i64 d0, .int .i64 d1, .int .i64 d2, .int .i64 d3, .int .i64 q0, .int .i64 q1, .int .i64 q2, .int .i64 q3, .slice s18.a s18.n s18.c, .slice s19.a s19.n s19.c]] w fun e w' => e = .returned (.bool true) ∧ RowedOk wb B vl vd Ds w w' := by
  obtain ⟨L, hL, hTR⟩ := ht.tab oa ob hm
  have hlen := tab_len hc hpl hql hTR
  have hok := tab_ok hc hTR
  obtain ⟨n, r, hn, hr, hal⟩ := tab_decides hc hTR k hk
  rw [← hL] at hlen hok hn hr
  have hdec := fun W h0 h1 h2 h3 => refDec_any c rb oa ob k pa qa pc qc W h0 h1 h2 h3 hc hm hk
  rw [← hal] at hdec
  have hfst : fstOf k (T (oa, ob)) = (n : Int) := by rw [fstOf, hn]
  have hfi := fun W a cp h0 h1 => first_any (T (oa, ob)) k a cp W h0 h1 hk
  rw [hfst] at hfi
  have hnl : n < (T (oa, ob)).length := (List.getElem?_eq_some_iff.1 hr).1
  have HDEC := hid hdec
  have HFI := hid hfi
  have HR := hid hr
  have HM := hid hm
  have HT := hid ht
  have HOK := hid hok
  have HL := hid hL
  have HBLK := hid hblk
  have HOD := hid hod
  have HP := hid hp
  have HQ := hid hq
  clear hm ht hk hok hL hTR hp hq hc hblk hod hdec hfi hfst hn hr hal
  have hbl : wb < w.heap.size := (Array.getElem?_eq_some_iff.1 HBLK.out).1
  go_enter Tryz.func51, Tryz.ntmps51
  go_wp2_with fail
  have hbW : Below w.heap.size w ((w.alloc (.cells #[.pointer (some ⟨tb, 0, none⟩), .pointer (some ⟨rb, 0, none⟩)] 119)).alloc (.cells #[.int .i64 kd, .int .i64 on, .int .i64 oa, .int .i64 ob, .slice s4.a s4.n s4.c, .slice s5.a s5.n s5.c, .int .i64 k.src, .int .i64 k.dst, .int .i64 k.proto, .int .i64 k.port, .int .i64 d0, .int .i64 d1, .int .i64 d2, .int .i64 d3, .int .i64 q0, .int .i64 q1, .int .i64 q2, .int .i64 q3, .slice s18.a s18.n s18.c, .slice s19.a s19.n s19.c] 88)) := (by repeat (first | exact Below.refl _ _ | assumption | apply Ext.alloc | apply Ext.drewN | apply Ext.drew | refine Ext.trans ?_ (by assumption)))
  have hsW : ((w.alloc (.cells #[.pointer (some ⟨tb, 0, none⟩), .pointer (some ⟨rb, 0, none⟩)] 119)).alloc (.cells #[.int .i64 kd, .int .i64 on, .int .i64 oa, .int .i64 ob, .slice s4.a s4.n s4.c, .slice s5.a s5.n s5.c, .int .i64 k.src, .int .i64 k.dst, .int .i64 k.proto, .int .i64 k.port, .int .i64 d0, .int .i64 d1, .int .i64 d2, .int .i64 d3, .int .i64 q0, .int .i64 q1, .int .i64 q2, .int .i64 q3, .slice s18.a s18.n s18.c, .slice s19.a s19.n s19.c] 88)).heap.size = w.heap.size + 2 := by simp [World.size_alloc]
  have HR1 := rows_any c T tb oa ob ((w.alloc (.cells #[.pointer (some ⟨tb, 0, none⟩), .pointer (some ⟨rb, 0, none⟩)] 119)).alloc (.cells #[.int .i64 kd, .int .i64 on, .int .i64 oa, .int .i64 ob, .slice s4.a s4.n s4.c, .slice s5.a s5.n s5.c, .int .i64 k.src, .int .i64 k.dst, .int .i64 k.proto, .int .i64 k.port, .int .i64 d0, .int .i64 d1, .int .i64 d2, .int .i64 d3, .int .i64 q0, .int .i64 q1, .int .i64 q2, .int .i64 q3, .slice s18.a s18.n s18.c, .slice s19.a s19.n s19.c] 88)) (HT.out.to hbW) HM.out
  rw [hsW] at HR1
  refine HR1.mono ?_
  clear HR1
  generalize T (oa, ob) = l at *
  rintro e w1 ⟨⟨v, rfl, hown⟩, hb1⟩
  rw [← hsW] at hb1
  have s2 : w1.cell? ⟨w.heap.size + 1, 2, none⟩ = some (.int .i64 oa) := cell_to (w := ((w.alloc (.cells #[.pointer (some ⟨tb, 0, none⟩), .pointer (some ⟨rb, 0, none⟩)] 119)).alloc (.cells #[.int .i64 kd, .int .i64 on, .int .i64 oa, .int .i64 ob, .slice s4.a s4.n s4.c, .slice s5.a s5.n s5.c, .int .i64 k.src, .int .i64 k.dst, .int .i64 k.proto, .int .i64 k.port, .int .i64 d0, .int .i64 d1, .int .i64 d2, .int .i64 d3, .int .i64 q0, .int .i64 q1, .int .i64 q2, .int .i64 q3, .slice s18.a s18.n s18.c, .slice s19.a s19.n s19.c] 88))) (by simp [go_sem]) hb1
  have s3 : w1.cell? ⟨w.heap.size + 1, 3, none⟩ = some (.int .i64 ob) := cell_to (w := ((w.alloc (.cells #[.pointer (some ⟨tb, 0, none⟩), .pointer (some ⟨rb, 0, none⟩)] 119)).alloc (.cells #[.int .i64 kd, .int .i64 on, .int .i64 oa, .int .i64 ob, .slice s4.a s4.n s4.c, .slice s5.a s5.n s5.c, .int .i64 k.src, .int .i64 k.dst, .int .i64 k.proto, .int .i64 k.port, .int .i64 d0, .int .i64 d1, .int .i64 d2, .int .i64 d3, .int .i64 q0, .int .i64 q1, .int .i64 q2, .int .i64 q3, .slice s18.a s18.n s18.c, .slice s19.a s19.n s19.c] 88))) (by simp [go_sem]) hb1
  have s6 : w1.cell? ⟨w.heap.size + 1, 6, none⟩ = some (.int .i64 k.src) := cell_to (w := ((w.alloc (.cells #[.pointer (some ⟨tb, 0, none⟩), .pointer (some ⟨rb, 0, none⟩)] 119)).alloc (.cells #[.int .i64 kd, .int .i64 on, .int .i64 oa, .int .i64 ob, .slice s4.a s4.n s4.c, .slice s5.a s5.n s5.c, .int .i64 k.src, .int .i64 k.dst, .int .i64 k.proto, .int .i64 k.port, .int .i64 d0, .int .i64 d1, .int .i64 d2, .int .i64 d3, .int .i64 q0, .int .i64 q1, .int .i64 q2, .int .i64 q3, .slice s18.a s18.n s18.c, .slice s19.a s19.n s19.c] 88))) (by simp [go_sem]) hb1
  have s7 : w1.cell? ⟨w.heap.size + 1, 7, none⟩ = some (.int .i64 k.dst) := cell_to (w := ((w.alloc (.cells #[.pointer (some ⟨tb, 0, none⟩), .pointer (some ⟨rb, 0, none⟩)] 119)).alloc (.cells #[.int .i64 kd, .int .i64 on, .int .i64 oa, .int .i64 ob, .slice s4.a s4.n s4.c, .slice s5.a s5.n s5.c, .int .i64 k.src, .int .i64 k.dst, .int .i64 k.proto, .int .i64 k.port, .int .i64 d0, .int .i64 d1, .int .i64 d2, .int .i64 d3, .int .i64 q0, .int .i64 q1, .int .i64 q2, .int .i64 q3, .slice s18.a s18.n s18.c, .slice s19.a s19.n s19.c] 88))) (by simp [go_sem]) hb1
  have s8 : w1.cell? ⟨w.heap.size + 1, 8, none⟩ = some (.int .i64 k.proto) := cell_to (w := ((w.alloc (.cells #[.pointer (some ⟨tb, 0, none⟩), .pointer (some ⟨rb, 0, none⟩)] 119)).alloc (.cells #[.int .i64 kd, .int .i64 on, .int .i64 oa, .int .i64 ob, .slice s4.a s4.n s4.c, .slice s5.a s5.n s5.c, .int .i64 k.src, .int .i64 k.dst, .int .i64 k.proto, .int .i64 k.port, .int .i64 d0, .int .i64 d1, .int .i64 d2, .int .i64 d3, .int .i64 q0, .int .i64 q1, .int .i64 q2, .int .i64 q3, .slice s18.a s18.n s18.c, .slice s19.a s19.n s19.c] 88))) (by simp [go_sem]) hb1
  have s9 : w1.cell? ⟨w.heap.size + 1, 9, none⟩ = some (.int .i64 k.port) := cell_to (w := ((w.alloc (.cells #[.pointer (some ⟨tb, 0, none⟩), .pointer (some ⟨rb, 0, none⟩)] 119)).alloc (.cells #[.int .i64 kd, .int .i64 on, .int .i64 oa, .int .i64 ob, .slice s4.a s4.n s4.c, .slice s5.a s5.n s5.c, .int .i64 k.src, .int .i64 k.dst, .int .i64 k.proto, .int .i64 k.port, .int .i64 d0, .int .i64 d1, .int .i64 d2, .int .i64 d3, .int .i64 q0, .int .i64 q1, .int .i64 q2, .int .i64 q3, .slice s18.a s18.n s18.c, .slice s19.a s19.n s19.c] 88))) (by simp [go_sem]) hb1
  have p0 : w1.cell? ⟨w.heap.size, 0, none⟩ = some (.pointer (some ⟨tb, 0, none⟩)) := cell_to (w := ((w.alloc (.cells #[.pointer (some ⟨tb, 0, none⟩), .pointer (some ⟨rb, 0, none⟩)] 119)).alloc (.cells #[.int .i64 kd, .int .i64 on, .int .i64 oa, .int .i64 ob, .slice s4.a s4.n s4.c, .slice s5.a s5.n s5.c, .int .i64 k.src, .int .i64 k.dst, .int .i64 k.proto, .int .i64 k.port, .int .i64 d0, .int .i64 d1, .int .i64 d2, .int .i64 d3, .int .i64 q0, .int .i64 q1, .int .i64 q2, .int .i64 q3, .slice s18.a s18.n s18.c, .slice s19.a s19.n s19.c] 88))) (by simp [go_sem]) hb1
  have p1 : w1.cell? ⟨w.heap.size, 1, none⟩ = some (.pointer (some ⟨rb, 0, none⟩)) := cell_to (w := ((w.alloc (.cells #[.pointer (some ⟨tb, 0, none⟩), .pointer (some ⟨rb, 0, none⟩)] 119)).alloc (.cells #[.int .i64 kd, .int .i64 on, .int .i64 oa, .int .i64 ob, .slice s4.a s4.n s4.c, .slice s5.a s5.n s5.c, .int .i64 k.src, .int .i64 k.dst, .int .i64 k.proto, .int .i64 k.port, .int .i64 d0, .int .i64 d1, .int .i64 d2, .int .i64 d3, .int .i64 q0, .int .i64 q1, .int .i64 q2, .int .i64 q3, .slice s18.a s18.n s18.c, .slice s19.a s19.n s19.c] 88))) (by simp [go_sem]) hb1
  have HB1 := hid (show Below w.heap.size w w1 from Ext.trans (show Below w.heap.size w ((w.alloc (.cells #[.pointer (some ⟨tb, 0, none⟩), .pointer (some ⟨rb, 0, none⟩)] 119)).alloc (.cells #[.int .i64 kd, .int .i64 on, .int .i64 oa, .int .i64 ob, .slice s4.a s4.n s4.c, .slice s5.a s5.n s5.c, .int .i64 k.src, .int .i64 k.dst, .int .i64 k.proto, .int .i64 k.port, .int .i64 d0, .int .i64 d1, .int .i64 d2, .int .i64 d3, .int .i64 q0, .int .i64 q1, .int .i64 q2, .int .i64 q3, .slice s18.a s18.n s18.c, .slice s19.a s19.n s19.c] 88)) from (by repeat (first | exact Below.refl _ _ | assumption | apply Ext.alloc | apply Ext.drewN | apply Ext.drew | refine Ext.trans ?_ (by assumption)))) hb1)
  have t0 := cell_to r0 HB1.out
  have t1 := cell_to r1 HB1.out
  have hs1 := hb1.size
  rw [hsW] at hs1
  obtain ⟨ra, rc, rfl, hrc, hrr⟩ := own_rows hown (by omega)
  have HOWN := hid hown
  have HRR := hid hrr
  clear hb1 hbW hown hrr hsW r0 r1
  go_wp2_with fail
  refine (HDEC.out w1 t0 t1 (rdPods.to HP.out HB1.out) (rdPols.to HQ.out HB1.out)).mono ?_
  rintro e w2 ⟨rfl, hb2⟩
  have hs2 := hb2.size
  have HB2 := hid (Ext.trans HB1.out hb2)
  have HOWN2 := hid (own_to HOWN.out hb2)
  have HRR2 := hid (rdRows.to HRR.out hb2)
  have y6 := cell_to s6 hb2
  have y7 := cell_to s7 hb2
  have y8 := cell_to s8 hb2
  have y9 := cell_to s9 hb2
  clear s2 s3 s6 s7 s8 s9 p0 p1 hb2 t0 t1
  go_wp2_with fail
  refine (table_any l L ra rc w2 HRR2.out HOK.out HL.out (by omega)).mono ?_
  rintro e w3 ⟨rfl, hb3⟩
  have hs3 := hb3.size
  have HB3 := hid (Ext.trans HB2.out hb3)
  have HOWN3 := hid (own_to HOWN2.out hb3)
  have HRR3 := hid (rdRows.to HRR2.out hb3)
  have x6 := cell_to y6 hb3
  have x7 := cell_to y7 hb3
  have x8 := cell_to y8 hb3
  have x9 := cell_to y9 hb3
  clear hb3 y6 y7 y8 y9
  go_wp2_with fail
  refine (num_any 0 _).mono ?_
  rintro e w4 ⟨rfl, rfl⟩
  go_wp2_with fail
  refine (HFI.out w4 ra rc HRR3.out HOK.out).mono ?_
  rintro e w5 ⟨rfl, hb5⟩
  have hs5 := hb5.size
  have HB5 := hid (Ext.trans HB3.out hb5)
  have HOWN5 := hid (own_to HOWN3.out hb5)
  obtain ⟨b, off, rfl, hbb, c0, c1, c2, c3, c4, c5, c6, c7⟩ := (rdRows.to HRR3.out hb5).2 n r HR.out
  have zn : (n : Int) < (l.length : Int) := by omega
  clear hb5 x6 x7 x8 x9
  clear c0 c1 c2 c3 c4 c5 c6
  generalize r.allow = ra0 at *
  go_wp2_with fail
  refine (keep_any wb B (w.heap.size + 2) vl vd _ Ds l.length _ w5 ((HB5.out.block wb hbl).trans HBLK.out) (own_to HOD.out HB5.out) hDl HOWN5.out (by omega) hBw (by omega) (fun g hg => by have := HOD.out.lt g hg; omega) (by omega) (by omega)).mono ?_
  rintro e w6 ⟨rfl, hkept⟩
  have HKP := hid hkept
  clear hkept
  go_wp2
  go_ret
  exact ⟨rfl, w5, _, _, HB5.out, by omega, fun g hg => by have := HOWN5.out.lt g hg; omega, HKP.out⟩
end Go.Proofs.YtmkjlhplgcifiaaGreat
