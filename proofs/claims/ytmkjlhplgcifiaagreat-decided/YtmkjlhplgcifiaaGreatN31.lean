/-
  palisade: Admits.
  The document's answer: P4.
  What is handed in lies in lists of the caller's own: lists of plain structs.
-/
import Derived.Test.YtmkjlhplgcifiaaGreatN26
import Derived.Test.YtmkjlhplgcifiaaGreatN21
import Derived.Test.YtmkjlhplgcifiaaGreatN22
import Derived.Test.YtmkjlhplgcifiaaGreatN14
import Derived.Test.YtmkjlhplgcifiaaGreatN03
import Derived.Laws.CopyRow
import Derived.Laws.MakeOwn
import Derived.Laws.Append
import Derived.Lib.SliceRun
namespace Go.Proofs.YtmkjlhplgcifiaaGreat
open Go.ChangeShapes Go.WideShapes Go.ChangeAt Go.RowKit
attribute [local simp] World.cell?_grow
attribute [local go_sem] World.cell?_grow
attribute [local simp] World.cell?_alloc_there
attribute [local go_sem] World.cell?_alloc_there
attribute [local go_sem] eqg_blk std_blk eqg_pod std_pod eqg_sel std_sel eqg_prt std_prt
attribute [local go_sem ↓] eql_blk eql_sel neq_sel eql_prt eql_pod
attribute [local go_sem ↓] met_in1 met_in2 met_re1 met_re2
attribute [local go_sem ↓] met_has1 met_has2
attribute [local go_sem ↓] met_bl1 met_bl2
attribute [local go_sem] eqg_row std_row
attribute [local go_sem ↓] neq_row
set_option linter.unusedVariables false
set_option linter.unusedSimpArgs false
set_option maxHeartbeats 1000000 in
theorem allPl (f : Int × Int → Bool) (k0 k1 : Value) (a : Option Addr) (cap : Nat) (l : List (Int × Int)) (w : World) (hl : rdPls w.heap.size w a l)
    (hK : ∀ (x : Int × Int) (w1 : World), x ∈ l → Below w.heap.size w w1 → Calls Tryz.prog 40 #[.agg #[.int .i64 x.1, .int .i64 x.2], k0, k1] w1 fun e w2 => e = .returned (.bool (f x)) ∧ Below w1.heap.size w1 w2) :
    Calls Tryz.prog 38 #[.slice a l.length cap, .func (.func 40) #[] #[k0, k1]] w fun e w' => e = .returned (.bool (l.all f)) ∧ Below w.heap.size w w' := by
  have HK := hid hK
  obtain ⟨hlen, hl⟩ := hl
  have HL := hid hl
  clear hl hK
  go_enter Tryz.func38, Tryz.ntmps38
  go_wp2
  go_loopw [9] (fun i wr => ∃ k : Nat, k ≤ l.length ∧ i = .int .i64 k ∧ (l.take k).all f = true ∧ Below w.heap.size w wr) (fun i _ => l.length - (intOf i).toNat)
  case atStart => exact ⟨0, Nat.zero_le _, rfl, rfl, Below.refl _ _⟩
  case round =>
    obtain ⟨k, hk, rfl, hall, hbw⟩ := hrel
    have HA := hid hall
    clear hall
    by_cases hlt : k < l.length
    · obtain ⟨hc, hf⟩ := bcell hbw
      obtain ⟨x, hxk⟩ : ∃ x, l[k]? = some x := ⟨l[k], by simp [hlt]⟩
      have HX := hid hxk
      clear hxk
      obtain ⟨b, off, rfl, hb, c0, c1⟩ := HL.out k x HX.out
      cases hx : f x
      · go_wp2_with (go_at_call 40; refine (HK.out x _ (List.mem_of_getElem? HX.out) (by repeat (first | exact Below.refl _ _ | assumption | apply Ext.alloc | apply Ext.drewN | apply Ext.drew | refine Ext.trans ?_ (by assumption)))).mono ?_; rw [hx]; rintro e w1 ⟨rfl, hb1⟩)
        go_ret
        exact ⟨ret_bool (by rw [all_false HX.out hx]), (by repeat (first | exact Below.refl _ _ | assumption | apply Ext.alloc | apply Ext.drewN | apply Ext.drew | refine Ext.trans ?_ (by assumption)))⟩
      · go_wp2_with (go_at_call 40; refine (HK.out x _ (List.mem_of_getElem? HX.out) (by repeat (first | exact Below.refl _ _ | assumption | apply Ext.alloc | apply Ext.drewN | apply Ext.drew | refine Ext.trans ?_ (by assumption)))).mono ?_; rw [hx]; rintro e w1 ⟨rfl, hb1⟩)
        exact ⟨⟨k + 1, by omega, by go_num, take_all HX.out HA.out hx, (by repeat (first | exact Below.refl _ _ | assumption | apply Ext.alloc | apply Ext.drewN | apply Ext.drew | refine Ext.trans ?_ (by assumption)))⟩, by simp [intOf]; omega⟩
    · go_wp2
      go_ret
      have := HA.out
      rw [List.take_of_length_le (by omega)] at this
      exact ⟨ret_bool (by rw [this]), hbw⟩
theorem admClo (c : DClu) (T : Int × Int → List DRow) (tb : Nat) (p : Int × Int) (k : DPkt) (tc kb : Nat) (w : World) (h : TabsAs w.heap.size w tb c T) (hm : p ∈ plist) (hk : pktOk k = true) (hc : cluOk c) (t0 : w.cell? ⟨tc, 0, none⟩ = some (.pointer (some ⟨tb, 0, none⟩)))
    (c0 : w.cell? ⟨kb, 0, none⟩ = some (.int .i64 k.src)) (c1 : w.cell? ⟨kb, 1, none⟩ = some (.int .i64 k.dst)) (c2 : w.cell? ⟨kb, 2, none⟩ = some (.int .i64 k.proto)) (c3 : w.cell? ⟨kb, 3, none⟩ = some (.int .i64 k.port)) :
    Calls Tryz.prog 40 #[.agg #[.int .i64 p.1, .int .i64 p.2], .pointer (some ⟨tc, 0, none⟩), .pointer (some ⟨kb, 0, none⟩)] w fun e w' => e = .returned (.bool (decd c p.1 p.2 k)) ∧ Below w.heap.size w w' := by
  obtain ⟨r, vs, a, cc, m0, hM, ⟨n0, hs⟩, hr⟩ := h.look p.1 p.2 hm
  obtain ⟨L, hL, hT⟩ := h.tab p.1 p.2 hm
  obtain ⟨n, rw', h1, h2, h3⟩ := tab_decides hc hT k hk
  have hok := tab_ok hc hT
  rw [← hL] at h1 h2 hok
  have l0 := cell_lt m0
  have l1 := cell_lt t0
  have l2 := cell_lt c0
  have hlk := fun w1 h1 => look_place1 w1 r vs h1 p.1 p.2
  rw [hs] at hlk
  have hM1 : MapAt (w.alloc (.cells #[.int .i64 p.1, .int .i64 p.2] 99)) r vs := by
    have hr : r < w.heap.size := (Array.getElem?_eq_some_iff.1 hM).1
    exact (Below.heap_alloc _ _ _ hr).trans hM
  have hlk := fun u => hlk _ (show MapAt ((w.alloc (.cells #[.int .i64 p.1, .int .i64 p.2] 99)).grow u) r vs from (World.heap_grow _ u r (Array.getElem?_eq_some_iff.1 hM1).1).trans hM1)
  have hC : Below w.heap.size w (w.alloc (.cells #[.int .i64 p.1, .int .i64 p.2] 99)) := (Below.refl _ w).alloc (Nat.le_refl _) _
  have HR := hid hr
  have H1 := hid h1
  have H2 := hid h2
  have H3 := hid h3
  have HOK := hid hok
  have HK := hid hk
  clear h hM hs hm hM1 hr h1 h2 h3 hok hL hT hk
  generalize T (p.1, p.2) = l at *
  have HD := hid (show ∀ (W : World), rdRows W.heap.size W (some a) l → Calls Tryz.prog 37 #[.slice (some a) l.length cc, .agg #[.int .i64 k.src, .int .i64 k.dst, .int .i64 k.proto, .int .i64 k.port]] W fun e w' => e = .returned (.tuple #[.bool (decd c p.1 p.2 k), .int .i64 n]) ∧ Below W.heap.size W w' from fun W hW => by
    have := decides_any l k n rw' (some a) cc W hW HOK.out HK.out H1.out H2.out
    rw [H3.out] at this
    exact this)
  go_enter Tryz.func40, Tryz.ntmps40
  go_wp2
  refine wp_region_grow (by kernel_rfl) (by kernel_rfl) ?_
  repeat (go_big_quiet_step (first
    | (go_at_call 37; exact Calls.grow_of (HD.out _ (rdRows.to (rdRows.to HR.out hC) (World.below_grow _ _))))))
  refine wpQuiet_nil ?_
  intro w1 hb1
  obtain ⟨hc1, hf1⟩ := bcell hb1
  have hz1 := hb_lt hb1
  go_wp2
  go_ret
  exact ⟨rfl, (by repeat (first | exact Below.refl _ _ | assumption | apply Ext.alloc | apply Ext.drewN | apply Ext.drew | refine Ext.trans ?_ (by assumption)))⟩
theorem admits_bad (tb : Nat) (k : DPkt) (w : World) (hk : pktOk k = false) :
    Calls Tryz.prog 20 #[.pointer (some ⟨tb, 0, none⟩), .agg #[.int .i64 k.src, .int .i64 k.dst, .int .i64 k.proto, .int .i64 k.port]] w fun e w' => e = .returned (.tuple #[.bool false, .int .i64 4]) ∧ Below w.heap.size w w' := by
  go_enter Tryz.func20, Tryz.ntmps20
  go_wp2_with (go_at_call 36; refine (pktRight_any k _).mono ?_; rw [hk]; rintro e w1 ⟨rfl, hb1⟩; obtain ⟨hc1, hf1⟩ := bcell hb1; have hz1 := hb_lt hb1)
  go_ret2
  exact ⟨rfl, (by repeat (first | exact Below.refl _ _ | assumption | apply Ext.alloc | apply Ext.drewN | apply Ext.drew | refine Ext.trans ?_ (by assumption)))⟩
theorem decd_may {c : DClu} (hc : cluOk c) (k : DPkt) : (plist.all fun p => decd c p.1 p.2 k) = (may c 1 k k.src k.dst && may c 2 k k.dst k.src) := by
  have h1 := decd_all hc k 1
  have h2 := decd_all hc k 2
  show _ = (may c 1 k (nearOf 1 k) (farOf 1 k) && may c 2 k (nearOf 2 k) (farOf 2 k))
  rw [← h1, ← h2]
  simp only [plist, List.all_cons, List.all_nil, Bool.and_true]
  cases decd c 0 1 k <;> cases decd c 1 1 k <;> cases decd c 2 1 k <;> cases decd c 3 1 k <;> simp [Bool.and_assoc]
set_option maxHeartbeats 1000000 in
theorem admits_any (c : DClu) (T : Int × Int → List DRow) (tb : Nat) (k : DPkt) (w : World) (h : TabsAs w.heap.size w tb c T) (hk : pktOk k = true) (hc : cluOk c) :
    Calls Tryz.prog 20 #[.pointer (some ⟨tb, 0, none⟩), .agg #[.int .i64 k.src, .int .i64 k.dst, .int .i64 k.proto, .int .i64 k.port]] w fun e w' => e = .returned (.tuple #[.bool (may c 1 k k.src k.dst && may c 2 k k.dst k.src), .int .i64 0]) ∧ Below w.heap.size w w' := by
  have HT := hid h
  have HK := hid hk
  have HC := hid hc
  have HM := hid (decd_may hc k)
  have hmf := mkFunc
  clear h hk hc
  go_enter Tryz.func20, Tryz.ntmps20
  go_wp2_with (first
    | (go_at_call 36; refine (pktRight_any k _).mono ?_; rw [HK.out]; rintro e w1 ⟨rfl, hb1⟩; obtain ⟨hc1, hf1⟩ := bcell hb1; have hz1 := hb_lt hb1)
    | (go_at_call 39; refine (places_any _).mono ?_; rintro e w2 ⟨⟨la, lc, rfl, hl2⟩, hb2⟩; have HL := hid hl2; clear hl2)
    | (go_at_call 38; go_must (refine (allPl (fun p => decd c p.1 p.2 k) _ _ _ _ _ _ HL.out (fun x w3 hx hb3 => admClo c T tb x k _ _ w3 (HT.out.to (by repeat (first | exact Below.refl _ _ | assumption | apply Ext.alloc | apply Ext.drewN | apply Ext.drew | refine Ext.trans ?_ (by assumption)))) hx HK.out HC.out (cell_to (cell_to (cell_to (by simp [go_sem]) hb1) hb2) hb3) (cell_to (cell_to (cell_to (by simp [go_sem]) hb1) hb2) hb3) (cell_to (cell_to (cell_to (by simp [go_sem]) hb1) hb2) hb3) (cell_to (cell_to (cell_to (by simp [go_sem]) hb1) hb2) hb3) (cell_to (cell_to (cell_to (by simp [go_sem]) hb1) hb2) hb3))).mono ?_); rw [HM.out]; rintro e w4 ⟨rfl, hb4⟩))
  go_ret2
  exact ⟨rfl, (by repeat (first | exact Below.refl _ _ | assumption | apply Ext.alloc | apply Ext.drewN | apply Ext.drew | refine Ext.trans ?_ (by assumption)))⟩
end Go.Proofs.YtmkjlhplgcifiaaGreat
namespace Go.Proofs.YtmkjlhplgcifiaaGreat
open Go.ChangeShapes Go.WideShapes Go.ChangeAt Go.RowKit
attribute [local simp] World.cell?_grow
attribute [local go_sem] World.cell?_grow
attribute [local simp] World.cell?_alloc_there
attribute [local go_sem] World.cell?_alloc_there
attribute [local go_sem] eqg_blk std_blk eqg_pod std_pod eqg_sel std_sel eqg_prt std_prt
attribute [local go_sem ↓] eql_blk eql_sel neq_sel eql_prt eql_pod
attribute [local go_sem ↓] met_in1 met_in2 met_re1 met_re2
attribute [local go_sem ↓] met_has1 met_has2
set_option linter.unusedVariables false
set_option linter.unusedSimpArgs false
set_option maxHeartbeats 4000000 in
theorem refAllowed_any (c : DClu) (k : DPkt) (pa qa : Option Addr) (pc qc : Nat) (w : World) (hp : rdPods w.heap.size w pa c.pods) (hq : rdPols w.heap.size w qa c.pols) :
    Calls Tryz.prog 77 #[.agg #[.slice pa c.pods.length pc, .slice qa c.pols.length qc], .agg #[.int .i64 k.src, .int .i64 k.dst, .int .i64 k.proto, .int .i64 k.port]] w
      fun e w' => e = .returned (.tuple #[.bool (allowed c k).1, .int .i64 (allowed c k).2]) ∧ Below w.heap.size w w' := by
  have HP := hid hp
  have HQ := hid hq
  clear hp hq
  by_cases h0 : (right c).1 = 0
  · have HC := hid (right_zero h0)
    have HE := hid h0
    cases hk : pktOk k
    · have HF := hid (show allowed c k = (false, 4) by rw [allowed, if_neg (by simp [h0]), if_pos hk])
      have HK := hid hk
      clear h0
      go_enter Tryz.func77, Tryz.ntmps77
      go_wp2_with (first
        | (go_at_call 75; refine (refRight_any c _ _ _ _ _ (rdPods.to HP.out (by repeat (first | exact Below.refl _ _ | assumption | apply Ext.alloc | apply Ext.drewN | apply Ext.drew | refine Ext.trans ?_ (by assumption)))) (rdPols.to HQ.out (by repeat (first | exact Below.refl _ _ | assumption | apply Ext.alloc | apply Ext.drewN | apply Ext.drew | refine Ext.trans ?_ (by assumption))))).mono ?_; rw [HE.out]; rintro e w1 ⟨rfl, hb1⟩; obtain ⟨hc1, hf1⟩ := bcell hb1; have hz1 := hb_lt hb1; have ca0 : w1.cell? ⟨w.heap.size, 0, none⟩ = some (.slice pa c.pods.length pc) := cell_to (by simp [go_sem]) hb1; have ca1 : w1.cell? ⟨w.heap.size, 1, none⟩ = some (.slice qa c.pols.length qc) := cell_to (by simp [go_sem]) hb1; have ca2 : w1.cell? ⟨w.heap.size + 1, 0, none⟩ = some (.int .i64 k.src) := cell_to (by simp [go_sem]) hb1; have ca3 : w1.cell? ⟨w.heap.size + 1, 1, none⟩ = some (.int .i64 k.dst) := cell_to (by simp [go_sem]) hb1; have ca4 : w1.cell? ⟨w.heap.size + 1, 2, none⟩ = some (.int .i64 k.proto) := cell_to (by simp [go_sem]) hb1; have ca5 : w1.cell? ⟨w.heap.size + 1, 3, none⟩ = some (.int .i64 k.port) := cell_to (by simp [go_sem]) hb1)
        | (go_at_call 83; refine (refPkt_any k _).mono ?_; rw [HK.out]; rintro e w2 ⟨rfl, hb2⟩; obtain ⟨hc2, hf2⟩ := bcell hb2; have hz2 := hb_lt hb2; have cb0 := cell_to ca0 hb2; have cb1 := cell_to ca1 hb2; have cb2 := cell_to ca2 hb2; have cb3 := cell_to ca3 hb2; have cb4 := cell_to ca4 hb2; have cb5 := cell_to ca5 hb2))
      go_ret2
      exact ⟨by rw [HF.out]; rfl, (by repeat (first | exact Below.refl _ _ | assumption | apply Ext.alloc | apply Ext.drewN | apply Ext.drew | refine Ext.trans ?_ (by assumption)))⟩
    · have HK := hid hk
      have hs := pktOk_src hk
      have hd := pktOk_dst hk
      cases hm : may c 1 k k.src k.dst
      all_goals
        have HF := hid (show allowed c k = (may c 1 k k.src k.dst && may c 2 k k.dst k.src, 0) by rw [allowed, if_neg (by simp [h0]), if_neg (by simp [hk])])
        have HM := hid hm
        clear h0
        go_enter Tryz.func77, Tryz.ntmps77
        go_wp2_with (first
          | (go_at_call 75; refine (refRight_any c _ _ _ _ _ (rdPods.to HP.out (by repeat (first | exact Below.refl _ _ | assumption | apply Ext.alloc | apply Ext.drewN | apply Ext.drew | refine Ext.trans ?_ (by assumption)))) (rdPols.to HQ.out (by repeat (first | exact Below.refl _ _ | assumption | apply Ext.alloc | apply Ext.drewN | apply Ext.drew | refine Ext.trans ?_ (by assumption))))).mono ?_; rw [HE.out]; rintro e w1 ⟨rfl, hb1⟩; obtain ⟨hc1, hf1⟩ := bcell hb1; have hz1 := hb_lt hb1; have ca0 : w1.cell? ⟨w.heap.size, 0, none⟩ = some (.slice pa c.pods.length pc) := cell_to (by simp [go_sem]) hb1; have ca1 : w1.cell? ⟨w.heap.size, 1, none⟩ = some (.slice qa c.pols.length qc) := cell_to (by simp [go_sem]) hb1; have ca2 : w1.cell? ⟨w.heap.size + 1, 0, none⟩ = some (.int .i64 k.src) := cell_to (by simp [go_sem]) hb1; have ca3 : w1.cell? ⟨w.heap.size + 1, 1, none⟩ = some (.int .i64 k.dst) := cell_to (by simp [go_sem]) hb1; have ca4 : w1.cell? ⟨w.heap.size + 1, 2, none⟩ = some (.int .i64 k.proto) := cell_to (by simp [go_sem]) hb1; have ca5 : w1.cell? ⟨w.heap.size + 1, 3, none⟩ = some (.int .i64 k.port) := cell_to (by simp [go_sem]) hb1)
          | (go_at_call 83; refine (refPkt_any k _).mono ?_; rw [HK.out]; rintro e w2 ⟨rfl, hb2⟩; obtain ⟨hc2, hf2⟩ := bcell hb2; have hz2 := hb_lt hb2; have cb0 := cell_to ca0 hb2; have cb1 := cell_to ca1 hb2; have cb2 := cell_to ca2 hb2; have cb3 := cell_to ca3 hb2; have cb4 := cell_to ca4 hb2; have cb5 := cell_to ca5 hb2))
        refine (refMay_out c k _ _ _ _ _ _ _ (rdPods.to HP.out (by repeat (first | exact Below.refl _ _ | assumption | apply Ext.alloc | apply Ext.drewN | apply Ext.drew | refine Ext.trans ?_ (by assumption)))) (rdPols.to HQ.out (by repeat (first | exact Below.refl _ _ | assumption | apply Ext.alloc | apply Ext.drewN | apply Ext.drew | refine Ext.trans ?_ (by assumption)))) HC.out hd.1 hd.2).mono ?_
        rw [HM.out]
        rintro e w3 ⟨rfl, hb3⟩; obtain ⟨hc3, hf3⟩ := bcell hb3; have hz3 := hb_lt hb3
        have cc0 := cell_to cb0 hb3
        have cc1 := cell_to cb1 hb3
        have cc2 := cell_to cb2 hb3
        have cc3 := cell_to cb3 hb3
        have cc4 := cell_to cb4 hb3
        have cc5 := cell_to cb5 hb3
        go_wp2_with fail
        refine (refMay_in c k _ _ _ _ _ _ _ (rdPods.to HP.out (by repeat (first | exact Below.refl _ _ | assumption | apply Ext.alloc | apply Ext.drewN | apply Ext.drew | refine Ext.trans ?_ (by assumption)))) (rdPols.to HQ.out (by repeat (first | exact Below.refl _ _ | assumption | apply Ext.alloc | apply Ext.drewN | apply Ext.drew | refine Ext.trans ?_ (by assumption)))) HC.out hs.1 hs.2).mono ?_
        rintro e w4 ⟨rfl, hb4⟩; obtain ⟨hc4, hf4⟩ := bcell hb4; have hz4 := hb_lt hb4
        go_wp2
        go_ret2
        exact ⟨by rw [HF.out, HM.out]; rfl, (by repeat (first | exact Below.refl _ _ | assumption | apply Ext.alloc | apply Ext.drewN | apply Ext.drew | refine Ext.trans ?_ (by assumption)))⟩
  · have HF := hid (show allowed c k = (false, (right c).1) by rw [allowed, if_pos h0])
    have hn : ((right c).1 == 0) = false := by simp [h0]
    have hn2 := bneT h0
    clear h0
    go_enter Tryz.func77, Tryz.ntmps77
    go_wp2_with (go_at_call 75; refine (refRight_any c _ _ _ _ _ (rdPods.to HP.out (by repeat (first | exact Below.refl _ _ | assumption | apply Ext.alloc | apply Ext.drewN | apply Ext.drew | refine Ext.trans ?_ (by assumption)))) (rdPols.to HQ.out (by repeat (first | exact Below.refl _ _ | assumption | apply Ext.alloc | apply Ext.drewN | apply Ext.drew | refine Ext.trans ?_ (by assumption))))).mono ?_; rintro e w1 ⟨rfl, hb1⟩; obtain ⟨hc1, hf1⟩ := bcell hb1; have hz1 := hb_lt hb1; have ca0 : w1.cell? ⟨w.heap.size, 0, none⟩ = some (.slice pa c.pods.length pc) := cell_to (by simp [go_sem]) hb1; have ca1 : w1.cell? ⟨w.heap.size, 1, none⟩ = some (.slice qa c.pols.length qc) := cell_to (by simp [go_sem]) hb1; have ca2 : w1.cell? ⟨w.heap.size + 1, 0, none⟩ = some (.int .i64 k.src) := cell_to (by simp [go_sem]) hb1; have ca3 : w1.cell? ⟨w.heap.size + 1, 1, none⟩ = some (.int .i64 k.dst) := cell_to (by simp [go_sem]) hb1; have ca4 : w1.cell? ⟨w.heap.size + 1, 2, none⟩ = some (.int .i64 k.proto) := cell_to (by simp [go_sem]) hb1; have ca5 : w1.cell? ⟨w.heap.size + 1, 3, none⟩ = some (.int .i64 k.port) := cell_to (by simp [go_sem]) hb1)
    go_ret2
    exact ⟨by rw [HF.out]; rfl, (by repeat (first | exact Below.refl _ _ | assumption | apply Ext.alloc | apply Ext.drewN | apply Ext.drew | refine Ext.trans ?_ (by assumption)))⟩
end Go.Proofs.YtmkjlhplgcifiaaGreat
namespace Go.Proofs.YtmkjlhplgcifiaaGreat
open Go.ChangeShapes Go.WideShapes Go.ChangeAt Go.RowKit
attribute [local simp] World.cell?_grow
attribute [local go_sem] World.cell?_grow
attribute [local go_sem] eqg_blk std_blk eqg_pod std_pod eqg_sel std_sel eqg_prt std_prt
attribute [local go_sem ↓] eql_blk eql_sel neq_sel eql_prt eql_pod
set_option linter.unusedVariables false
set_option linter.unusedSimpArgs false
/-- a copy between rows of elements of whatever size -/
theorem copy_big (P : Program) (w : World) (dT sT ty elem : TypeId) (g dLen dCap : Nat) (a : Addr) (sLen sCap sz : Nat) (cur : Array Value) (t : TypeId) (cs : List Value)
    (hu : P.underlying dT = some (.slice elem)) (hs : (P.info? elem).map (·.size) = some sz)
    (hg : w.heap[g]? = some (.cells cur t (0, 0))) (hn : cs.length = sLen * sz) (hd : sLen ≤ dLen)
    (hsrc : ∀ j v, cs[j]? = some v → w.cell? (a.add j) = some v) (hfit : cs.length ≤ cur.size) (h1 : ∀ v ∈ cs, v.oneCell' = true) :
    (Builtin.copy_ #[dT, sT] ty #[.slice (some ⟨g, 0, none⟩) dLen dCap, .slice (some a) sLen sCap]).run P w =
      .ok (goInt sLen) (w.setRow g (cs ++ cur.toList.drop cs.length).toArray) := by
  have hl := run_loadCells_list (P := P) w a cs hsrc
  have hst := run_storeCells_at P g 0 t cs 0 cur w hg (by simpa using hfit) h1
  cases hq : P.info? elem with
  | none => simp [hq] at hs
  | some i =>
    have hi : i.size = sz := by simpa [hq] using hs
    have hm : sLen.min dLen = sLen := Nat.min_eq_left hd
    have hst2 : (storeCells ⟨g, 0, none⟩ cs).run P w = .ok () (w.setRow g (cs ++ cur.toList.drop cs.length).toArray) := by simpa using hst
    simp [Builtin.copy_, run_underlying hu, Builtin.lenOf, Builtin.firstCells, sizeOf, typeInfo, hq, hi, hm, ← hn, hl, hst2]
theorem setRow_alloc (w : World) (c d : Array Value) (t : TypeId) : (w.alloc (.cells c t)).setRow w.heap.size d = w.alloc (.cells d t) := by
  cases w with
  | mk heap tape drawn os output =>
    show World.mk _ _ _ _ _ = World.mk (heap.push (.cells d t)) _ _ _ _
    congr 1
    apply Array.ext
    · simp [World.alloc]
    · intro k h1 h2
      simp only [World.alloc, Array.getElem_modify, Array.getElem_push]
      by_cases hk : heap.size = k
      · subst hk; simp
      · simp only [if_neg hk]
        split
        · rfl
        · rename_i h3; simp at h2; omega
theorem alloc_heap (w : World) (o : Obj) : (w.alloc o).heap[w.heap.size]? = some o := by
  show (w.heap.push o)[w.heap.size]? = _
  simp
theorem flat_get {α : Type} (f : α → List Value) (sz : Nat) (hf : ∀ x, (f x).length = sz) (hz : 0 < sz) : ∀ (l : List α) (j : Nat) (v : Value), (l.flatMap f)[j]? = some v → ∃ x, l[j / sz]? = some x ∧ (f x)[j % sz]? = some v
  | [], j, v, h => by simp at h
  | x :: t, j, v, h => by
    rw [List.flatMap_cons, List.getElem?_append] at h
    rw [hf x] at h
    split at h
    · rename_i hj
      rw [Nat.div_eq_of_lt hj, Nat.mod_eq_of_lt hj]
      exact ⟨x, by simp, h⟩
    · rename_i hj
      obtain ⟨y, h1, h2⟩ := flat_get f sz hf hz t (j - sz) v h
      have e : j = (j - sz) + sz := by omega
      refine ⟨y, ?_, ?_⟩
      · rw [e, Nat.add_div_right _ hz]; simpa using h1
      · rw [e, Nat.add_mod_right]; exact h2
theorem flat_len {α : Type} (f : α → List Value) (sz : Nat) (hf : ∀ x, (f x).length = sz) : ∀ l : List α, (l.flatMap f).length = l.length * sz
  | [] => by simp
  | x :: t => by rw [List.flatMap_cons, List.length_append, hf, flat_len f sz hf t, List.length_cons, Nat.succ_mul]; omega
theorem flat_at {α : Type} (f : α → List Value) (sz : Nat) (hf : ∀ x, (f x).length = sz) (l : List α) (e : List Value) (i : Nat) (x : α) (h : l[i]? = some x) (r : Nat) (hr : r < sz) : (l.flatMap f ++ e)[i * sz + r]? = (f x)[r]? := by
  induction l generalizing i with
  | nil => simp at h
  | cons y t ih =>
    rw [List.flatMap_cons, List.append_assoc]
    cases i with
    | zero =>
      simp at h
      subst h
      rw [List.getElem?_append_left (by rw [hf]; omega)]
      simp
    | succ i =>
      rw [List.getElem?_append_right (by rw [hf, Nat.succ_mul]; omega)]
      have : (i + 1) * sz + r - (f y).length = i * sz + r := by rw [hf, Nat.succ_mul]; omega
      rw [this]
      exact ih i (by simpa using h)
theorem flat_end {α : Type} (f : α → List Value) (sz : Nat) (hf : ∀ x, (f x).length = sz) (l : List α) (e : List Value) (r : Nat) : (l.flatMap f ++ e)[l.length * sz + r]? = e[r]? := by
  rw [List.getElem?_append_right (by rw [flat_len f sz hf]; omega), flat_len f sz hf]
  congr 1; omega
def bCells (x : DBlk) : List Value := [.int .i64 x.base, .int .i64 x.bits]
def tCells (x : DPort) : List Value := [.int .i64 x.proto, .int .i64 x.lo, .int .i64 x.hi]
def oCells (x : DPod) : List Value := [.int .i64 x.host, .int .i64 x.ip, .int .i64 x.space, .int .i64 x.labels]
theorem und_blk : Tryz.prog.underlying 67 = some (.slice 47) := Tryz.underlying67
theorem siz_blk : (Tryz.prog.info? 47).map (·.size) = some 2 := by kernel_rfl
theorem inf_blk : ∃ i, Tryz.prog.info? 47 = some i ∧ i.zero = some (.agg #[.int .i64 0, .int .i64 0]) ∧ i.size = 2 ∧ i.bytes = 16 := by
  have h0 : (Tryz.prog.info? 47).isSome = true := by kernel_rfl
  have h1 : (Tryz.prog.info? 47).map (·.zero) = some (some (.agg #[.int .i64 0, .int .i64 0])) := by kernel_rfl
  have h2 : (Tryz.prog.info? 47).map (·.bytes) = some 16 := by kernel_rfl
  have h3 := siz_blk
  obtain ⟨i, hi⟩ := Option.isSome_iff_exists.1 h0
  rw [hi] at h1 h2 h3
  exact ⟨i, hi, by simpa using h1, by simpa using h3, by simpa using h2⟩
theorem make_blk (n : Nat) (w : World) (h : n * 16 ≤ 140737488351232) : ∃ Z : Array Value, Z.size = (n + 1) * 2 ∧
    (Instr.makeSlice 67 (.int .i64 ((n : Int) + 1)) (.int .i64 ((n : Int) + 1))).run Tryz.prog w = .ok (.slice (some ⟨w.heap.size, 0, none⟩) (n + 1) (n + 1)) (w.alloc (.cells Z 47)) := by
  obtain ⟨i, h1, h2, h3, h4⟩ := inf_blk
  have := run_make (P := Tryz.prog) w 67 47 i _ und_blk h1 h2 .i64 .i64 ((n : Int) + 1) ((n : Int) + 1) (by omega) (by omega) (by rw [h4]; omega) (by omega)
  have e : ((n : Int) + 1).toNat = n + 1 := by omega
  rw [h3, e] at this
  exact ⟨_, size_madeCells _ _, this⟩
theorem lens_blk (x : DBlk) : (bCells x).length = 2 := rfl
theorem src_blk (B : Nat) (w : World) (a : Addr) (l : List DBlk) (h : rdBlks B w (some a) l) : ∀ j v, (l.flatMap bCells)[j]? = some v → w.cell? (a.add j) = some v := by
  intro j v hj
  obtain ⟨x, h1, h2⟩ := flat_get bCells 2 lens_blk (by omega) l j v hj
  obtain ⟨b, off, he, hb, h3⟩ := h.2 _ x h1
  cases he
  have ha : (⟨b, off, none⟩ : Addr).add j = ⟨b, off + j / 2 * 2 + j % 2, none⟩ := by
    have : j / 2 * 2 + j % 2 = j := by omega
    unfold Addr.add
    split
    · rename_i h0; subst h0; simp
    · simp only [Addr.mk.injEq, true_and, and_true]; omega
  rw [ha]
  unfold eBlk at h3
  obtain ⟨g0, g1⟩ := h3
  have hlt : j % 2 < 2 := Nat.mod_lt _ (by omega)
  generalize j % 2 = r at h2 hlt
  match r, hlt with
  | 0, _ => simp [bCells] at h2; subst h2; exact g0
  | 1, _ => simp [bCells] at h2; subst h2; exact g1
set_option maxHeartbeats 1000000 in
theorem lent_blk (l : List DBlk) (a : Addr) (cap B : Nat) (w : World) (hr : rdBlks B w (some a) l) :
    Calls Tryz.prog 169 #[.slice (some a) l.length cap] w fun e w' => e = .returned (.slice (some ⟨w.heap.size, 0, none⟩) l.length (l.length + 1)) ∧ w' = w.alloc (.cells (l.flatMap bCells ++ ([.int .i64 (-7), .int .i64 7] : List Value)).toArray 47) := by
  have hlen := hr.1
  obtain ⟨Z, hZ, hmk⟩ := make_blk l.length w hlen
  have hfl := flat_len bCells 2 lens_blk l
  have hcp := copy_big Tryz.prog (w.alloc (.cells Z 47)) 67 67 3 47 w.heap.size (l.length + 1) (l.length + 1) a l.length cap 2 Z 47 (l.flatMap bCells) und_blk siz_blk (alloc_heap _ _) hfl (by omega)
    (fun j v hj => by
      have h1 := src_blk B w a l hr j v hj
      rw [World.cell?_alloc_lt _ _ _ (World.block_lt_of_cell? w _ h1)]
      exact h1) (by rw [hfl, hZ, Nat.succ_mul]; omega) (fun v hv => by
      obtain ⟨x, _, hx⟩ := List.mem_flatMap.1 hv
      simp [bCells] at hx
      rcases hx with rfl | rfl <;> rfl)
  rw [setRow_alloc] at hcp
  obtain ⟨C, hC⟩ : ∃ C, C = (l.flatMap bCells ++ Z.toList.drop (l.flatMap bCells).length).toArray := ⟨_, rfl⟩
  rw [← hC] at hcp
  have HCg := hid (show ∀ r, r < 2 → C[l.length * 2 + r]? = some (Z.getD (l.length * 2 + r) default) from fun r hr => by
    rw [hC, List.getElem?_toArray, flat_end bCells 2 lens_blk, List.getElem?_drop, hfl]
    have : l.length * 2 + r < Z.size := by rw [hZ, Nat.succ_mul]; omega
    simp [Array.getD, this])
  have HD := hid (show ((C.setIfInBounds (l.length * 2) (.int .i64 (-7))).setIfInBounds (l.length * 2 + 1) (.int .i64 7)) = (l.flatMap bCells ++ ([.int .i64 (-7), .int .i64 7] : List Value)).toArray by
    rw [hC]
    have hdl : (Z.toList.drop (l.flatMap bCells).length).length = 2 := by rw [List.length_drop, hfl]; simp [hZ, Nat.succ_mul]
    generalize Z.toList.drop (l.flatMap bCells).length = t at hdl
    match t, hdl with
    | [t0, t1], _ =>
      apply Array.ext'
      simp only [Array.toList_setIfInBounds]
      rw [← hfl]
      simp [List.set_append])
  clear hC hZ hr
  have hq : ∀ w, (binOp .eql 67 (.slice (some a) l.length cap) (.slice none 0 0)).run Tryz.prog w = .ok (.bool false) w := fun w => Lib.run_eql_slice_nil w 67 47 _ _ _ _ _ und_blk
  have q0 : C[l.length * 2]? = some (Z.getD (l.length * 2 + 0) default) := HCg.out 0 (by omega)
  have q1 : C[l.length * 2 + 1]? = some (Z.getD (l.length * 2 + 1) default) := HCg.out 1 (by omega)
  go_enter Tryz.func169, Tryz.ntmps169
  go_wp2
  rw [HD.out]
  go_ret
  exact ⟨rfl, rfl⟩
theorem lentNil_blk (cap : Nat) (w : World) :
    Calls Tryz.prog 169 #[.slice none 0 cap] w fun e w' => e = .returned (.slice none 0 0) ∧ w' = w := by
  have hq : ∀ w, (binOp .eql 67 (.slice none 0 cap) (.slice none 0 0)).run Tryz.prog w = .ok (.bool true) w := fun w => Lib.run_eql_slice_nil w 67 47 _ _ _ _ _ und_blk
  go_enter Tryz.func169, Tryz.ntmps169
  go_wp2
  go_ret
  exact ⟨rfl, rfl⟩
theorem und_prt : Tryz.prog.underlying 62 = some (.slice 109) := Tryz.underlying62
theorem siz_prt : (Tryz.prog.info? 109).map (·.size) = some 3 := by kernel_rfl
theorem inf_prt : ∃ i, Tryz.prog.info? 109 = some i ∧ i.zero = some (.agg #[.int .i64 0, .int .i64 0, .int .i64 0]) ∧ i.size = 3 ∧ i.bytes = 24 := by
  have h0 : (Tryz.prog.info? 109).isSome = true := by kernel_rfl
  have h1 : (Tryz.prog.info? 109).map (·.zero) = some (some (.agg #[.int .i64 0, .int .i64 0, .int .i64 0])) := by kernel_rfl
  have h2 : (Tryz.prog.info? 109).map (·.bytes) = some 24 := by kernel_rfl
  have h3 := siz_prt
  obtain ⟨i, hi⟩ := Option.isSome_iff_exists.1 h0
  rw [hi] at h1 h2 h3
  exact ⟨i, hi, by simpa using h1, by simpa using h3, by simpa using h2⟩
theorem make_prt (n : Nat) (w : World) (h : n * 24 ≤ 140737488351232) : ∃ Z : Array Value, Z.size = (n + 1) * 3 ∧
    (Instr.makeSlice 62 (.int .i64 ((n : Int) + 1)) (.int .i64 ((n : Int) + 1))).run Tryz.prog w = .ok (.slice (some ⟨w.heap.size, 0, none⟩) (n + 1) (n + 1)) (w.alloc (.cells Z 109)) := by
  obtain ⟨i, h1, h2, h3, h4⟩ := inf_prt
  have := run_make (P := Tryz.prog) w 62 109 i _ und_prt h1 h2 .i64 .i64 ((n : Int) + 1) ((n : Int) + 1) (by omega) (by omega) (by rw [h4]; omega) (by omega)
  have e : ((n : Int) + 1).toNat = n + 1 := by omega
  rw [h3, e] at this
  exact ⟨_, size_madeCells _ _, this⟩
theorem lens_prt (x : DPort) : (tCells x).length = 3 := rfl
theorem src_prt (B : Nat) (w : World) (a : Addr) (l : List DPort) (h : rdPorts B w (some a) l) : ∀ j v, (l.flatMap tCells)[j]? = some v → w.cell? (a.add j) = some v := by
  intro j v hj
  obtain ⟨x, h1, h2⟩ := flat_get tCells 3 lens_prt (by omega) l j v hj
  obtain ⟨b, off, he, hb, h3⟩ := h.2 _ x h1
  cases he
  have ha : (⟨b, off, none⟩ : Addr).add j = ⟨b, off + j / 3 * 3 + j % 3, none⟩ := by
    have : j / 3 * 3 + j % 3 = j := by omega
    unfold Addr.add
    split
    · rename_i h0; subst h0; simp
    · simp only [Addr.mk.injEq, true_and, and_true]; omega
  rw [ha]
  unfold ePort at h3
  obtain ⟨g0, g1, g2⟩ := h3
  have hlt : j % 3 < 3 := Nat.mod_lt _ (by omega)
  generalize j % 3 = r at h2 hlt
  match r, hlt with
  | 0, _ => simp [tCells] at h2; subst h2; exact g0
  | 1, _ => simp [tCells] at h2; subst h2; exact g1
  | 2, _ => simp [tCells] at h2; subst h2; exact g2
set_option maxHeartbeats 1000000 in
theorem lent_prt (l : List DPort) (a : Addr) (cap B : Nat) (w : World) (hr : rdPorts B w (some a) l) :
    Calls Tryz.prog 146 #[.slice (some a) l.length cap] w fun e w' => e = .returned (.slice (some ⟨w.heap.size, 0, none⟩) l.length (l.length + 1)) ∧ w' = w.alloc (.cells (l.flatMap tCells ++ ([.int .i64 (-7), .int .i64 0, .int .i64 0] : List Value)).toArray 109) := by
  have hlen := hr.1
  obtain ⟨Z, hZ, hmk⟩ := make_prt l.length w hlen
  have hfl := flat_len tCells 3 lens_prt l
  have hcp := copy_big Tryz.prog (w.alloc (.cells Z 109)) 62 62 3 109 w.heap.size (l.length + 1) (l.length + 1) a l.length cap 3 Z 109 (l.flatMap tCells) und_prt siz_prt (alloc_heap _ _) hfl (by omega)
    (fun j v hj => by
      have h1 := src_prt B w a l hr j v hj
      rw [World.cell?_alloc_lt _ _ _ (World.block_lt_of_cell? w _ h1)]
      exact h1) (by rw [hfl, hZ, Nat.succ_mul]; omega) (fun v hv => by
      obtain ⟨x, _, hx⟩ := List.mem_flatMap.1 hv
      simp [tCells] at hx
      rcases hx with rfl | rfl | rfl <;> rfl)
  rw [setRow_alloc] at hcp
  obtain ⟨C, hC⟩ : ∃ C, C = (l.flatMap tCells ++ Z.toList.drop (l.flatMap tCells).length).toArray := ⟨_, rfl⟩
  rw [← hC] at hcp
  have HCg := hid (show ∀ r, r < 3 → C[l.length * 3 + r]? = some (Z.getD (l.length * 3 + r) default) from fun r hr => by
    rw [hC, List.getElem?_toArray, flat_end tCells 3 lens_prt, List.getElem?_drop, hfl]
    have : l.length * 3 + r < Z.size := by rw [hZ, Nat.succ_mul]; omega
    simp [Array.getD, this])
  have HD := hid (show (((C.setIfInBounds (l.length * 3) (.int .i64 (-7))).setIfInBounds (l.length * 3 + 1) (.int .i64 0)).setIfInBounds (l.length * 3 + 2) (.int .i64 0)) = (l.flatMap tCells ++ ([.int .i64 (-7), .int .i64 0, .int .i64 0] : List Value)).toArray by
    rw [hC]
    have hdl : (Z.toList.drop (l.flatMap tCells).length).length = 3 := by rw [List.length_drop, hfl]; simp [hZ, Nat.succ_mul]
    generalize Z.toList.drop (l.flatMap tCells).length = t at hdl
    match t, hdl with
    | [t0, t1, t2], _ =>
      apply Array.ext'
      simp only [Array.toList_setIfInBounds]
      rw [← hfl]
      simp [List.set_append])
  clear hC hZ hr
  have hq : ∀ w, (binOp .eql 62 (.slice (some a) l.length cap) (.slice none 0 0)).run Tryz.prog w = .ok (.bool false) w := fun w => Lib.run_eql_slice_nil w 62 109 _ _ _ _ _ und_prt
  have q0 : C[l.length * 3]? = some (Z.getD (l.length * 3 + 0) default) := HCg.out 0 (by omega)
  have q1 : C[l.length * 3 + 1]? = some (Z.getD (l.length * 3 + 1) default) := HCg.out 1 (by omega)
  have q2 : C[l.length * 3 + 2]? = some (Z.getD (l.length * 3 + 2) default) := HCg.out 2 (by omega)
  go_enter Tryz.func146, Tryz.ntmps146
  go_wp2
  rw [HD.out]
  go_ret
  exact ⟨rfl, rfl⟩
theorem lentNil_prt (cap : Nat) (w : World) :
    Calls Tryz.prog 146 #[.slice none 0 cap] w fun e w' => e = .returned (.slice none 0 0) ∧ w' = w := by
  have hq : ∀ w, (binOp .eql 62 (.slice none 0 cap) (.slice none 0 0)).run Tryz.prog w = .ok (.bool true) w := fun w => Lib.run_eql_slice_nil w 62 109 _ _ _ _ _ und_prt
  go_enter Tryz.func146, Tryz.ntmps146
  go_wp2
  go_ret
  exact ⟨rfl, rfl⟩
end Go.Proofs.YtmkjlhplgcifiaaGreat
