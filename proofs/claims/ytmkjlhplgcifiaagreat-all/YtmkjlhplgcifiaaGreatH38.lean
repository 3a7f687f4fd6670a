/-
  Rules given back.
-/
import Derived.Test.YtmkjlhplgcifiaaGreatH37
import Derived.Test.YtmkjlhplgcifiaaGreatH36
namespace Go.Proofs.YtmkjlhplgcifiaaGreat
open Go.ChangeShapes Go.WideShapes Go.ChangeAt Go.RowKit
set_option linter.unusedVariables false
set_option linter.unusedSimpArgs false
attribute [local simp] World.cell?_grow World.cell?_alloc_there
attribute [local go_sem] World.cell?_grow World.cell?_alloc_there eqg_blk std_blk eqg_pod std_pod eqg_sel std_sel eqg_prt std_prt
attribute [local go_sem ↓] eql_blk eql_sel neq_sel eql_prt eql_pod met_in1 met_in2 met_re1 met_re2
theorem lnPeers.fwd {lo hi B : Nat} {w0 w1 w : World} {a : Option Addr} {v : Value} {l : List DPeer} (hr : rdPeers B w0 a l) (hB : Below B w0 w1) (h : lnPeers lo hi w0 w a v l) : lnPeers lo hi w1 w a v l := by
  rcases h with h | ⟨a', g, f, h1, h2, h3, h4, ⟨h5, h5b, h5c, h5d⟩, h6, h7⟩
  · exact Or.inl h
  · refine Or.inr ⟨a', g, f, h1, h2, h3, h4, ⟨h5, h5b, h5c, fun i hi x hx => ?_⟩, h6, h7⟩
    have := h5d i hi x hx
    obtain ⟨b, off, he, hb, _⟩ := hr.2 i x hx
    subst he
    rw [← subA_below hB hb] at this
    exact this
theorem lnRules.fwd {lo hi B : Nat} {w0 w1 w : World} {a : Option Addr} {v : Value} {l : List DRule} (hr : rdRules B w0 a l) (hB : Below B w0 w1) (h : lnRules lo hi w0 w a v l) : lnRules lo hi w1 w a v l := by
  rcases h with h | ⟨a', g, f, h1, h2, h3, h4, ⟨h5, h5b, h5c, h5d⟩, h6, h7⟩
  · exact Or.inl h
  · refine Or.inr ⟨a', g, f, h1, h2, h3, h4, ⟨h5, h5b, h5c, fun i hi x hx => ?_⟩, h6, h7⟩
    obtain ⟨m, s, t, g1, g2, g3, g4, g5, g6⟩ := h5d i hi x hx
    obtain ⟨b, off, he, hb, ⟨pa, pc, c0, hp⟩, qa, qc, c1, hq⟩ := hr.2 i x hx
    subst he
    rw [← subA_below hB hb] at g6
    have c0' : w1.cell? ⟨b, off + i * 2, none⟩ = some (.slice pa x.peers.length pc) := by rw [hB.cell (p := ⟨b, _, none⟩) hb]; exact c0
    refine ⟨m, s, t, g1, g2, g3, g4, ?_, g6⟩
    rw [subA_eq c0] at g5
    rw [subA_eq c0']
    exact lnPeers.fwd hp hB g5
set_option maxRecDepth 100000 in
set_option maxHeartbeats 8000000 in
theorem backRules_some (l : List DRule) (a : Addr) (cap B lo hi g : Nat) (f : Nat → Nat) (w : World) (hr : rdRules B w (some a) l) (hB : B ≤ lo) (hlo : lo ≤ g) (hg : g < hi) (hs : hi ≤ w.heap.size)
    (hL : LnL 2 l.length (eLnRule w (some a) l g) w g f l.length) (hf : f l.length ≤ hi) (hz : w.cell? ⟨g, l.length * 2, none⟩ = some (.slice none 0 0)) (hz1 : ∃ sa sc, w.cell? ⟨g, l.length * 2 + 1, none⟩ = some (.slice sa 1 sc)) :
    Calls Tryz.prog 115 #[.slice (some ⟨g, 0, none⟩) l.length (l.length + 1), .slice (some a) l.length cap] w fun e w' => e = .returned (.bool true) ∧ Only lo hi w w' := by
  have HR := hid hr
  have HL := hid hL
  have hlen := hr.1
  have HM := hid (mono_le hL.2.2.1)
  have hg0 := hL.2.1
  obtain ⟨sa, sc, hz1⟩ := hz1
  clear hr hL
  have hq : ∀ w, (binOp .eql 57 (.slice (some a) l.length cap) (.slice none 0 0)).run Tryz.prog w = .ok (.bool false) w := fun w => Lib.run_eql_slice_nil w 57 64 _ _ _ _ _ und_rule
  have hne : ((l.length : Int) != (l.length : Int)) = false := by simp
  go_enter Tryz.func115, Tryz.ntmps115
  go_wp2
  go_loopw [6, 7] (fun ok i wr => ∃ k : Nat, k ≤ l.length ∧ i = .int .i64 k ∧ ok = .bool true ∧ Only (f 0) (f k) w wr) (fun _ i _ => l.length - (intOf i).toNat)
  case atStart => exact ⟨0, Nat.zero_le _, rfl, rfl, Only.refl _ _ _⟩
  case round =>
    obtain ⟨k, hk, rfl, rfl, hon⟩ := hrel
    have HN := hid hon
    have hfk := HM.out k l.length hk (Nat.le_refl _)
    have hf0 := HM.out 0 k (Nat.zero_le _) hk
    by_cases hlt : k < l.length
    · obtain ⟨x, hxk⟩ : ∃ x, l[k]? = some x := ⟨l[k], by simp [hlt]⟩
      have HX := hid hxk
      have hfk1 := HM.out (k + 1) l.length hlt (Nat.le_refl _)
      obtain ⟨m, s, t, hm1, hm2, e0, e1, hln1, hln2⟩ := HL.out.2.2.2 k hlt x hxk
      obtain ⟨va, vn, vc, hve⟩ := hln1.sl
      subst hve
      obtain ⟨ta, tn, tc, hte⟩ := hln2.sl
      subst hte
      clear hxk
      obtain ⟨b, off, he, hb, ⟨pa, pc, c0, hrp⟩, qa, qc, c1, hrq⟩ := HR.out.2 k x HX.out
      cases he
      rw [subA_eq (n := x.peers.length) (c := pc) c0] at hln1
      rw [subA_eq (n := x.ports.length) (c := qc) (by rwa [Nat.add_assoc] at c1)] at hln2
      have HP := hid hrp
      have HQ := hid hrq
      have HL1 := hid hln1
      have HL2 := hid hln2
      have HBW := hid (show Below B w wr from hon.below (by omega) (by omega))
      have hsw := hon.2.1
      have d0 := hon.cell e0 (by omega)
      have d1 := hon.cell e1 (by omega)
      have g0 := hon.cell c0 (by omega)
      have g1 := hon.cell c1 (by omega)
      clear e0 e1 c0 c1 hrp hrq hln1 hln2 hon hz hz1
      have i0 : (0 : Int) ≤ (k : Int) := by omega
      have i1 : (k : Int) < (l.length : Int) := by omega
      have i2 : (k : Int) < (l.length : Int) + 1 := by omega
      have i3 : (k : Int) < ((l.length + 1 : Nat) : Int) := by omega
      have i4 : k < l.length + 1 := by omega
      go_wp2
      go_region_held3 (fun w' => w'.cell? ⟨g, k * 2, none⟩ = some (.slice va vn vc) ∧ w'.cell? ⟨b, off + k * 2, none⟩ = some (.slice pa x.peers.length pc)) (go_keep) (first
        | (go_at_call 147; refine (backPeers_any x.peers pa (.slice va vn vc) pc B (f k) m _ (rdPeers.ext (HBW.out.drew) (Nat.le_refl _) HP.out) (by omega) (by show m ≤ wr.heap.size; omega) (lnPeers.fwd HP.out HBW.out.drew (HL1.out.heap fun j h1 h2 => HN.out.heap (by omega) (by omega)))).mono ?_; rintro e w1 ⟨rfl, hon1⟩; have d0' := hon1.cell (g := g) (o := k * 2) (v := .slice va vn vc) (by simp [d0]) (by omega); have g0' := hon1.cell (g := b) (o := off + k * 2) (v := .slice pa x.peers.length pc) (by simp [g0]) (by omega)))
      have E1 := hon1.cell (g := g) (o := k * 2 + 1) (v := .slice ta tn tc) (by simp [d1]) (by omega)
      have G1 := hon1.cell (g := b) (o := off + k * 2 + 1) (v := .slice qa x.ports.length qc) (by simp [g1]) (by omega)
      have HON1 := hid hon1
      have hsw1 : wr.heap.size ≤ w1.heap.size := hon1.2.1
      have HBW1 := hid (show Below B w w1 from HBW.out.drew.trans (hon1.below (B := B) (by omega) (by show B ≤ wr.heap.size; omega)))
      have HN1 := hid (show Only (f 0) m w w1 from (HN.out.drew.mono (Nat.le_refl _) hm1).trans (hon1.mono hf0 (Nat.le_refl _)))
      clear hon1 d0' g0' d0 g0 d1 g1
      go_wp2
      go_region_held3 (fun w' => w'.cell? ⟨g, k * 2 + 1, none⟩ = some (.slice ta tn tc) ∧ w'.cell? ⟨b, off + k * 2 + 1, none⟩ = some (.slice qa x.ports.length qc)) (go_keep) (first
        | (go_at_call 148; refine (backPorts_any x.ports qa (.slice ta tn tc) qc B m (f (k + 1)) _ (rdPorts.ext (HBW1.out.drew) (Nat.le_refl _) HQ.out) (by omega) (HL2.out.heap fun j h1 h2 => HN1.out.heap (by omega) (by omega))).mono ?_; rintro e w2 ⟨rfl, hon2⟩; have d1' := hon2.cell (g := g) (o := k * 2 + 1) (v := .slice ta tn tc) (by simp [E1]) (by omega); have g1' := hon2.cell (g := b) (o := off + k * 2 + 1) (v := .slice qa x.ports.length qc) (by simp [G1]) (by omega)))
      have HN2 := hid (show Only (f 0) (f (k + 1)) w w2 from (HN1.out.drew.mono (Nat.le_refl _) hm2).trans (hon2.mono (by omega) (Nat.le_refl _)))
      clear hon2 d1' g1' E1 G1
      go_wp2
      exact ⟨⟨k + 1, by omega, by go_num, by simp, HN2.out⟩, by simp [intOf]; omega⟩
    · have HOW := hid (own_heap HL.out.1 (hon.heap (k := g) (by omega) (by omega)))
      have HON := hid (hon.mono (lo' := lo) (hi' := hi) (by omega) (by omega))
      clear hon hz hz1
      go_wp2
      go_loopw [10] (fun i wr => ∃ k : Nat, k ≤ l.length + 1 ∧ i = .int .i64 k ∧ own wr g ((l.length + 1) * 2) ∧ Only lo hi w wr) (fun i _ => l.length + 1 - (intOf i).toNat)
      case atStart => exact ⟨0, Nat.zero_le _, rfl, HOW.out, HON.out⟩
      case round =>
        obtain ⟨k, hk, rfl, hown, hon⟩ := hrel
        have HON := hid hon
        have HOW := hid hown
        by_cases hlt2 : k < l.length + 1
        · have hfr := hown.2
          obtain ⟨v0, e0⟩ := hown.1 (k * 2) (by omega)
          obtain ⟨v1, e1⟩ := hown.1 (k * 2 + 1) (by omega)
          clear hown hon
          go_wp2
          exact ⟨⟨k + 1, by omega, by go_num, sets_own _ _ (k * 2) _ [.slice none 0 0, .slice none 0 0] HOW.out, HON.out.trans ((sets_only _ g (k * 2) [.slice none 0 0, .slice none 0 0]).mono hlo (by omega))⟩, by simp [intOf]; omega⟩
        · clear hown hon
          go_wp2
          go_ret
          exact ⟨rfl, HON.out⟩
theorem backRules_nil (hc cap : Nat) (w : World) :
    Calls Tryz.prog 115 #[.slice none 0 hc, .slice none 0 cap] w fun e w' => e = .returned (.bool true) ∧ w' = w := by
  have hq : ∀ c w, (binOp .eql 57 (.slice none 0 c) (.slice none 0 0)).run Tryz.prog w = .ok (.bool true) w := fun c w => Lib.run_eql_slice_nil w 57 64 _ _ _ _ _ und_rule
  go_enter Tryz.func115, Tryz.ntmps115
  go_wp2
  go_ret
  exact ⟨rfl, rfl⟩
theorem backRules_any (l : List DRule) (a : Option Addr) (v : Value) (cap B lo hi : Nat) (w : World) (hr : rdRules B w a l) (hB : B ≤ lo) (hs : hi ≤ w.heap.size) (hl : lnRules lo hi w w a v l) :
    Calls Tryz.prog 115 #[v, .slice a l.length cap] w fun e w' => e = .returned (.bool true) ∧ Only lo hi w w' := by
  rcases hl with ⟨rfl, rfl, rfl⟩ | ⟨a', g, f, rfl, h2, h3, rfl, h5, h6, h7, h8⟩
  · refine (backRules_nil 0 cap w).mono ?_
    rintro e w' ⟨rfl, rfl⟩
    exact ⟨rfl, Only.refl _ _ _⟩
  · exact backRules_some l a' cap B lo hi g f w hr hB h2 h3 hs h5 h6 h7 h8
set_option maxRecDepth 100000 in
set_option maxHeartbeats 8000000 in
theorem backPolicy_any (p : DPol) (oa ia : Option Addr) (oc ic : Nat) (s t : Option Addr) (sn sc tn tc B lo m hi : Nat) (w : World) (ho : rdRules B w oa p.outs) (hi' : rdRules B w ia p.ins) (hB : B ≤ lo) (hlm : lo ≤ m) (hmh : m ≤ hi) (hs : hi ≤ w.heap.size)
    (hl1 : lnRules lo m w w oa (.slice s sn sc) p.outs) (hl2 : lnRules m hi w w ia (.slice t tn tc) p.ins) :
    Calls Tryz.prog 87 #[.agg #[.int .i64 p.space, .int .i64 p.need, .int .i64 p.ban, .int .i64 p.ways, .slice s sn sc, .slice t tn tc], .agg #[.int .i64 p.space, .int .i64 p.need, .int .i64 p.ban, .int .i64 p.ways, .slice oa p.outs.length oc, .slice ia p.ins.length ic]] w fun e w' => e = .returned (.bool true) ∧ Only lo hi w w' := by
  have HO := hid ho
  have HI := hid hi'
  have HL1 := hid hl1
  have HL2 := hid hl2
  clear ho hi' hl1 hl2
  go_enter Tryz.func87, Tryz.ntmps87
  go_wp2_with fail
  generalize hW : (w.alloc (Obj.cells #[.int .i64 p.space, .int .i64 p.need, .int .i64 p.ban, .int .i64 p.ways, .slice s sn sc, .slice t tn tc] 59)).alloc (Obj.cells #[.int .i64 p.space, .int .i64 p.need, .int .i64 p.ban, .int .i64 p.ways, .slice oa p.outs.length oc, .slice ia p.ins.length ic] 59) = W
  have hsW : W.heap.size = w.heap.size + 2 := by rw [← hW]; simp
  have a0 : W.cell? ⟨w.heap.size, 0, none⟩ = some (.int .i64 p.space) := by rw [← hW]; simp [go_sem]
  have a1 : W.cell? ⟨w.heap.size, 1, none⟩ = some (.int .i64 p.need) := by rw [← hW]; simp [go_sem]
  have a2 : W.cell? ⟨w.heap.size, 2, none⟩ = some (.int .i64 p.ban) := by rw [← hW]; simp [go_sem]
  have a3 : W.cell? ⟨w.heap.size, 3, none⟩ = some (.int .i64 p.ways) := by rw [← hW]; simp [go_sem]
  have a5 : W.cell? ⟨w.heap.size, 5, none⟩ = some (.slice t tn tc) := by rw [← hW]; simp [go_sem]
  have b0 : W.cell? ⟨w.heap.size + 1, 0, none⟩ = some (.int .i64 p.space) := by rw [← hW]; simp [go_sem]
  have b1 : W.cell? ⟨w.heap.size + 1, 1, none⟩ = some (.int .i64 p.need) := by rw [← hW]; simp [go_sem]
  have b2 : W.cell? ⟨w.heap.size + 1, 2, none⟩ = some (.int .i64 p.ban) := by rw [← hW]; simp [go_sem]
  have b3 : W.cell? ⟨w.heap.size + 1, 3, none⟩ = some (.int .i64 p.ways) := by rw [← hW]; simp [go_sem]
  have b5 : W.cell? ⟨w.heap.size + 1, 5, none⟩ = some (.slice ia p.ins.length ic) := by rw [← hW]; simp [go_sem]
  have HBW := hid (show Below w.heap.size w W from by rw [← hW]; exact bel)
  clear hW
  have hBW : Below B w W := HBW.out.mono (by omega)
  refine (backRules_any p.outs oa (.slice s sn sc) oc B lo m W (rdRules.ext hBW (Nat.le_refl _) HO.out) hB (by omega) (lnRules.fwd HO.out hBW (HL1.out.heap fun j h1 h2 => HBW.out.block j (by omega)))).mono ?_
  rintro e w1 ⟨rfl, hon1⟩
  have c0 := hon1.cell a0 (by omega)
  have c1 := hon1.cell a1 (by omega)
  have c2 := hon1.cell a2 (by omega)
  have c3 := hon1.cell a3 (by omega)
  have c5 := hon1.cell a5 (by omega)
  have d0 := hon1.cell b0 (by omega)
  have d1 := hon1.cell b1 (by omega)
  have d2 := hon1.cell b2 (by omega)
  have d3 := hon1.cell b3 (by omega)
  have d5 := hon1.cell b5 (by omega)
  have HON1 := hid hon1
  have hs1 := hon1.2.1
  have hB1 : Below B w w1 := hBW.trans (hon1.below hB (by omega))
  clear a0 a1 a2 a3 a5 b0 b1 b2 b3 b5 hon1
  go_wp2_with fail
  refine (backRules_any p.ins ia (.slice t tn tc) ic B m hi w1 (rdRules.ext hB1 (Nat.le_refl _) HI.out) (by omega) (by omega) (lnRules.fwd HI.out hB1 (HL2.out.heap fun j h1 h2 => by rw [HON1.out.heap (by omega) (by omega)]; exact HBW.out.block j (by omega)))).mono ?_
  rintro e w2 ⟨rfl, hon2⟩
  have a0 := hon2.cell c0 (by omega)
  have a1 := hon2.cell c1 (by omega)
  have a2 := hon2.cell c2 (by omega)
  have a3 := hon2.cell c3 (by omega)
  have b0 := hon2.cell d0 (by omega)
  have b1 := hon2.cell d1 (by omega)
  have b2 := hon2.cell d2 (by omega)
  have b3 := hon2.cell d3 (by omega)
  have HF := hid (show Only lo hi w w2 from ((Only.of_below HBW.out).trans (HON1.out.mono (Nat.le_refl _) hmh)).trans (hon2.mono hlm (Nat.le_refl _)))
  clear c0 c1 c2 c3 c5 d0 d1 d2 d3 d5 hon2
  go_wp2
  go_ret
  exact ⟨rfl, HF.out⟩
set_option maxRecDepth 100000 in
set_option maxHeartbeats 16000000 in
theorem back_nn (c : DClu) (pc qc B lo m hi : Nat) (w : World) (hB : B ≤ lo) (hlm : lo ≤ m) (hmh : m ≤ hi) (hs : hi ≤ w.heap.size) :
    Calls Tryz.prog 74 #[.agg #[.slice none 0 0, .slice none 0 0], .agg #[.slice none 0 pc, .slice none 0 qc]] w fun e w' => e = .returned (.bool true) ∧ Only lo hi w w' := by
  have hqp : ∀ w, (binOp .neq 25 (.slice none 0 pc) (.slice none 0 0)).run Tryz.prog w = .ok (.bool false) w := fun w => run_neq_slice_nil_any w 25 54 _ _ _ _ _ und_pod
  have hqq : ∀ w, (binOp .neq 26 (.slice none 0 qc) (.slice none 0 0)).run Tryz.prog w = .ok (.bool false) w := fun w => run_neq_slice_nil_any w 26 59 _ _ _ _ _ und_pol
  go_enter Tryz.func74, Tryz.ntmps74
  go_wp2
  go_ret
  exact ⟨rfl, Only.of_below bel⟩
set_option maxRecDepth 100000 in
set_option maxHeartbeats 16000000 in
theorem back_pn (c : DClu) (pa : Addr) (gp : Nat) (pc qc B lo m hi : Nat) (w : World) (hB : B ≤ lo) (hlm : lo ≤ m) (hmh : m ≤ hi) (hs : hi ≤ w.heap.size) (hp : rdPods B w (some pa) c.pods) (hgp1 : lo ≤ gp) (hgp2 : gp < m) (hgr : w.heap[gp]? = some (.cells (c.pods.flatMap oCells ++ ([.int .i64 (-7), .int .i64 0, .int .i64 0, .int .i64 0] : List Value)).toArray 54 (0, 0))) :
    Calls Tryz.prog 74 #[.agg #[.slice (some ⟨gp, 0, none⟩) c.pods.length (c.pods.length + 1), .slice none 0 0], .agg #[.slice (some pa) c.pods.length pc, .slice none 0 qc]] w fun e w' => e = .returned (.bool true) ∧ Only lo hi w w' := by
  have hqp : ∀ w, (binOp .neq 25 (.slice (some pa) c.pods.length pc) (.slice none 0 0)).run Tryz.prog w = .ok (.bool true) w := fun w => run_neq_slice_nil_any w 25 54 _ _ _ _ _ und_pod
  have hqq : ∀ w, (binOp .neq 26 (.slice none 0 qc) (.slice none 0 0)).run Tryz.prog w = .ok (.bool false) w := fun w => run_neq_slice_nil_any w 26 59 _ _ _ _ _ und_pol
  have hlp := hp.1
  have HP := hid hp
  have HGR := hid hgr
  have HOP := hid (own_of hgr (show _ = (c.pods.length + 1) * 4 by simp [flat_len oCells 4 lens_pod, Nat.succ_mul]))
  have hn1 : ((c.pods.length : Int) != (c.pods.length : Int)) = false := by simp
  clear hp hgr
  have s0 : w.cell? ⟨gp, c.pods.length * 4, none⟩ = some (.int .i64 (-7)) := row_cell HGR.out ((flat_end oCells 4 lens_pod c.pods _ 0).trans rfl)
  have s1 : w.cell? ⟨gp, c.pods.length * 4 + 1, none⟩ = some (.int .i64 0) := row_cell HGR.out ((flat_end oCells 4 lens_pod c.pods _ 1).trans rfl)
  have s2 : w.cell? ⟨gp, c.pods.length * 4 + 2, none⟩ = some (.int .i64 0) := row_cell HGR.out ((flat_end oCells 4 lens_pod c.pods _ 2).trans rfl)
  have s3 : w.cell? ⟨gp, c.pods.length * 4 + 3, none⟩ = some (.int .i64 0) := row_cell HGR.out ((flat_end oCells 4 lens_pod c.pods _ 3).trans rfl)
  have gw1 : gp < w.heap.size := by omega
  have gw2 : gp < w.heap.size + 1 := by omega
  have gw3 : gp ≤ w.heap.size := by omega
  go_enter Tryz.func74, Tryz.ntmps74
  go_wp2
  generalize hW : (w.alloc (Obj.cells #[.slice (some ⟨gp, 0, none⟩) c.pods.length (c.pods.length + 1), .slice none 0 0] 28)).alloc (Obj.cells #[.slice (some pa) c.pods.length pc, .slice none 0 qc] 28) = W
  have hsW : W.heap.size = w.heap.size + 2 := by rw [← hW]; simp
  have x0 : W.cell? ⟨w.heap.size, 0, none⟩ = some (.slice (some ⟨gp, 0, none⟩) c.pods.length (c.pods.length + 1)) := by rw [← hW]; simp [go_sem]
  have x1 : W.cell? ⟨w.heap.size, 1, none⟩ = some (.slice none 0 0) := by rw [← hW]; simp [go_sem]
  have y0 : W.cell? ⟨w.heap.size + 1, 0, none⟩ = some (.slice (some pa) c.pods.length pc) := by rw [← hW]; simp [go_sem]
  have y1 : W.cell? ⟨w.heap.size + 1, 1, none⟩ = some (.slice none 0 qc) := by rw [← hW]; simp [go_sem]
  have HBW := hid (show Below w.heap.size w W from by rw [← hW]; exact bel)
  clear hW
  clear s0 s1 s2 s3
  go_loopw [5, 7] (fun ok i wr => ∃ k : Nat, k ≤ c.pods.length ∧ i = .int .i64 k ∧ ok = .bool true ∧ own wr gp ((c.pods.length + 1) * 4) ∧ (∀ o, k * 4 ≤ o → wr.cell? ⟨gp, o, none⟩ = w.cell? ⟨gp, o, none⟩) ∧ Only gp (gp + 1) W wr) (fun _ i _ => c.pods.length - (intOf i).toNat)
  case atStart => exact ⟨0, Nat.zero_le _, rfl, rfl, own_heap HOP.out (HBW.out.block gp (by omega)), fun o _ => HBW.out.cell (p := ⟨gp, o, none⟩) (by show gp < _; omega), Only.refl _ _ _⟩
  case round =>
    obtain ⟨k, hk, rfl, rfl, hown, hrow, hon⟩ := hrel
    have HOW := hid hown
    have HRW := hid hrow
    have HON := hid hon
    have z0 := hon.cell x0 (by omega)
    have z1 := hon.cell x1 (by omega)
    have t0 := hon.cell y0 (by omega)
    have t1 := hon.cell y1 (by omega)
    have hsr := hon.2.1
    have HBR := hid (show Below B w wr from (HBW.out.mono (by omega)).trans (hon.below (by omega) (by omega)))
    by_cases hlt : k < c.pods.length
    · obtain ⟨x, hxk⟩ : ∃ x, c.pods[k]? = some x := ⟨c.pods[k], by simp [hlt]⟩
      have HX := hid hxk
      clear hxk
      obtain ⟨b, off, he, hb, c0, c1, c2, c3⟩ := HP.out.2 k x HX.out
      cases he
      have e0 : wr.cell? ⟨gp, k * 4, none⟩ = some (.int .i64 x.host) := by rw [hrow _ (by omega)]; exact row_cell HGR.out ((flat_at oCells 4 lens_pod c.pods _ k x HX.out 0 (by omega)).trans rfl)
      have d0 : wr.cell? ⟨b, off + k * 4, none⟩ = some (.int .i64 x.host) := by rw [HBR.out.cell (p := ⟨b, _, none⟩) hb]; exact c0
      have e1 : wr.cell? ⟨gp, k * 4 + 1, none⟩ = some (.int .i64 x.ip) := by rw [hrow _ (by omega)]; exact row_cell HGR.out ((flat_at oCells 4 lens_pod c.pods _ k x HX.out 1 (by omega)).trans rfl)
      have d1 : wr.cell? ⟨b, off + k * 4 + 1, none⟩ = some (.int .i64 x.ip) := by rw [HBR.out.cell (p := ⟨b, _, none⟩) hb]; exact c1
      have e2 : wr.cell? ⟨gp, k * 4 + 2, none⟩ = some (.int .i64 x.space) := by rw [hrow _ (by omega)]; exact row_cell HGR.out ((flat_at oCells 4 lens_pod c.pods _ k x HX.out 2 (by omega)).trans rfl)
      have d2 : wr.cell? ⟨b, off + k * 4 + 2, none⟩ = some (.int .i64 x.space) := by rw [HBR.out.cell (p := ⟨b, _, none⟩) hb]; exact c2
      have e3 : wr.cell? ⟨gp, k * 4 + 3, none⟩ = some (.int .i64 x.labels) := by rw [hrow _ (by omega)]; exact row_cell HGR.out ((flat_at oCells 4 lens_pod c.pods _ k x HX.out 3 (by omega)).trans rfl)
      have d3 : wr.cell? ⟨b, off + k * 4 + 3, none⟩ = some (.int .i64 x.labels) := by rw [HBR.out.cell (p := ⟨b, _, none⟩) hb]; exact c3
      clear hown hrow hon c0 c1 c2 c3
      go_wp2
      refine wp_region_grow (by kernel_rfl) (by kernel_rfl) ?_
      repeat (go_big_quiet_step (fail))
      refine wpQuiet_nil ?_
      intro w1 hb1
      obtain ⟨hc1, hf1⟩ := bcell hb1
      have hz1 := hb_lt hb1
      have hfr : ∀ o, w1.frozen? ⟨gp, o, none⟩ = false := fun o => by rw [hb1.frozen (p := ⟨gp, o, none⟩) (by show gp < _; omega)]; exact HOW.out.2 o
      have k0 := cell_to e0 hb1
      have k1 := cell_to e1 hb1
      have k2 := cell_to e2 hb1
      have k3 := cell_to e3 hb1
      have HO1 := hid (own_heap HOW.out (hb1.block gp (by omega)))
      have HB1 := hid hb1
      clear hc1 hf1 hz1 hb1 e0 e1 e2 e3 d0 d1 d2 d3
      go_wp2
      refine ⟨⟨k + 1, by omega, by go_num, by simp, sets_own _ _ (k * 4) _ [.int .i64 0, .int .i64 7, .int .i64 0, .int .i64 0] HO1.out, fun o ho => ?_, (HON.out.ext HB1.out).trans (sets_only _ gp (k * 4) [.int .i64 0, .int .i64 7, .int .i64 0, .int .i64 0])⟩, by simp [intOf]; omega⟩
      exact (sets_behind _ _ (k * 4) [.int .i64 0, .int .i64 7, .int .i64 0, .int .i64 0] _ (by simp; omega)).trans ((HB1.out.cell (p := ⟨gp, o, none⟩) (by show gp < _; omega)).trans (HRW.out o (by omega)))
    · have HOV := hid (show Only lo m w wr from (Only.of_below HBW.out).trans (hon.mono hgp1 (by omega)))
      clear hown hrow hon x0 x1 y0 y1
      obtain ⟨V, hV⟩ : ∃ V, V = wr := ⟨_, rfl⟩
      subst hV
      go_wp2
      go_ret
      exact ⟨rfl, HOV.out.mono (Nat.le_refl _) hmh⟩
set_option maxRecDepth 100000 in
set_option maxHeartbeats 16000000 in
theorem back_nq (c : DClu) (qa : Addr) (gq : Nat) (f : Nat → Nat) (pc qc B lo m hi : Nat) (w : World) (hB : B ≤ lo) (hlm : lo ≤ m) (hmh : m ≤ hi) (hs : hi ≤ w.heap.size) (hq : rdPols B w (some qa) c.pols) (hgq1 : m ≤ gq) (hgq2 : gq < hi) (hL : LnL 6 c.pols.length (eLnPol w (some qa) c.pols gq) w gq f c.pols.length) (hf : f c.pols.length ≤ hi) (hz : w.cell? ⟨gq, c.pols.length * 6, none⟩ = some (.int .i64 (-7))) :
    Calls Tryz.prog 74 #[.agg #[.slice none 0 0, .slice (some ⟨gq, 0, none⟩) c.pols.length (c.pols.length + 1)], .agg #[.slice none 0 pc, .slice (some qa) c.pols.length qc]] w fun e w' => e = .returned (.bool true) ∧ Only lo hi w w' := by
  have hqp : ∀ w, (binOp .neq 25 (.slice none 0 pc) (.slice none 0 0)).run Tryz.prog w = .ok (.bool false) w := fun w => run_neq_slice_nil_any w 25 54 _ _ _ _ _ und_pod
  have hqq : ∀ w, (binOp .neq 26 (.slice (some qa) c.pols.length qc) (.slice none 0 0)).run Tryz.prog w = .ok (.bool true) w := fun w => run_neq_slice_nil_any w 26 59 _ _ _ _ _ und_pol
  have hlq := hq.1
  have HQ := hid hq
  have HL := hid hL
  have HZ := hid hz
  have HMO := hid (mono_le hL.2.2.1)
  have hg0 := hL.2.1
  have hn2 : ((c.pols.length : Int) != (c.pols.length : Int)) = false := by simp
  clear hq hL
  have gw1 : gq < w.heap.size := by omega
  have gw2 : gq < w.heap.size + 1 := by omega
  have gw3 : gq ≤ w.heap.size := by omega
  go_enter Tryz.func74, Tryz.ntmps74
  go_wp2
  generalize hW : (w.alloc (Obj.cells #[.slice none 0 0, .slice (some ⟨gq, 0, none⟩) c.pols.length (c.pols.length + 1)] 28)).alloc (Obj.cells #[.slice none 0 pc, .slice (some qa) c.pols.length qc] 28) = W
  have hsW : W.heap.size = w.heap.size + 2 := by rw [← hW]; simp
  have x0 : W.cell? ⟨w.heap.size, 0, none⟩ = some (.slice none 0 0) := by rw [← hW]; simp [go_sem]
  have x1 : W.cell? ⟨w.heap.size, 1, none⟩ = some (.slice (some ⟨gq, 0, none⟩) c.pols.length (c.pols.length + 1)) := by rw [← hW]; simp [go_sem]
  have y0 : W.cell? ⟨w.heap.size + 1, 0, none⟩ = some (.slice none 0 pc) := by rw [← hW]; simp [go_sem]
  have y1 : W.cell? ⟨w.heap.size + 1, 1, none⟩ = some (.slice (some qa) c.pols.length qc) := by rw [← hW]; simp [go_sem]
  have HBW := hid (show Below w.heap.size w W from by rw [← hW]; exact bel)
  clear hW
  obtain ⟨V, hV⟩ : ∃ V, V = W := ⟨_, rfl⟩
  subst hV
  have HOV := hid (show Only lo m w V from Only.of_below HBW.out)
  have HBR := hid (HBW.out.mono (B' := B) (by omega))
  have hsr : V.heap.size ≤ V.heap.size := Nat.le_refl _
  have z0 := x0
  have z1 := x1
  have t0 := y0
  have t1 := y1
  clear x0 x1 y0 y1
  have hsV := HOV.out.2.1
  have HLV := hid (LnL.to (eLnPol.stab w (some qa) c.pols gq) HL.out (HOV.out.heap (k := gq) (by omega) (by omega)) (fun j h1 h2 => HOV.out.heap (by omega) (by omega)))
  have z7 : V.cell? ⟨gq, c.pols.length * 6, none⟩ = some (.int .i64 (-7)) := HOV.out.cell HZ.out (by omega)
  have HZV := hid z7
  clear z7
  go_loopw [5, 9] (fun ok i wr => ∃ k : Nat, k ≤ c.pols.length ∧ i = .int .i64 k ∧ ok = .bool true ∧ own wr gq ((c.pols.length + 1) * 6) ∧ (∀ o, k * 6 ≤ o → wr.cell? ⟨gq, o, none⟩ = V.cell? ⟨gq, o, none⟩) ∧ Only gq (f k) V wr) (fun _ i _ => c.pols.length - (intOf i).toNat)
  case atStart => exact ⟨0, Nat.zero_le _, rfl, by simp, HLV.out.1, fun o _ => rfl, Only.refl _ _ _⟩
  case round =>
    obtain ⟨k, hk, rfl, rfl, hown, hrow, hon⟩ := hrel
    have HOW := hid hown
    have HRW := hid hrow
    have HON := hid hon
    have hfk := HMO.out k c.pols.length hk (Nat.le_refl _)
    have hf0 := HMO.out 0 k (Nat.zero_le _) hk
    have hswr := hon.2.1
    have q1 := hon.cell t1 (by omega)
    have q0 := hon.cell z1 (by omega)
    have HBK := hid (show Below B w wr from HBR.out.trans (hon.below (by omega) (by omega)))
    by_cases hlt : k < c.pols.length
    · obtain ⟨x, hxk⟩ : ∃ x, c.pols[k]? = some x := ⟨c.pols[k], by simp [hlt]⟩
      have HX := hid hxk
      have hfk1 := HMO.out (k + 1) c.pols.length hlt (Nat.le_refl _)
      have hfkk := HMO.out k (k + 1) (by omega) hlt
      obtain ⟨mm, s, t, hm1, hm2, e0, e1, e2, e3, e4, e5, hln1, hln2⟩ := HLV.out.2.2.2 k hlt x hxk
      obtain ⟨va, vn, vc, hve⟩ := hln1.sl
      subst hve
      obtain ⟨ta, tn, tc, hte⟩ := hln2.sl
      subst hte
      clear hxk
      obtain ⟨b, off, he, hb, c0, c1, c2, c3, ⟨oa, oc, c4, ho⟩, ia, ic, c5, hi'⟩ := HQ.out.2 k x HX.out
      cases he
      rw [subA_eq (n := x.outs.length) (c := oc) (by rwa [Nat.add_assoc] at c4)] at hln1
      rw [subA_eq (n := x.ins.length) (c := ic) (by rwa [Nat.add_assoc] at c5)] at hln2
      have HO := hid ho
      have HI := hid hi'
      have HL1 := hid hln1
      have HL2 := hid hln2
      have d0 : wr.cell? ⟨gq, k * 6, none⟩ = some (.int .i64 x.space) := by rw [hrow _ (by omega)]; exact e0
      have d1 : wr.cell? ⟨gq, k * 6 + 1, none⟩ = some (.int .i64 x.need) := by rw [hrow _ (by omega)]; exact e1
      have d2 : wr.cell? ⟨gq, k * 6 + 2, none⟩ = some (.int .i64 x.ban) := by rw [hrow _ (by omega)]; exact e2
      have d3 : wr.cell? ⟨gq, k * 6 + 3, none⟩ = some (.int .i64 x.ways) := by rw [hrow _ (by omega)]; exact e3
      have d4 : wr.cell? ⟨gq, k * 6 + 4, none⟩ = some (.slice va vn vc) := by rw [hrow _ (by omega)]; exact e4
      have d5 : wr.cell? ⟨gq, k * 6 + 5, none⟩ = some (.slice ta tn tc) := by rw [hrow _ (by omega)]; exact e5
      have g0 : wr.cell? ⟨b, off + k * 6, none⟩ = some (.int .i64 x.space) := by rw [HBK.out.cell (p := ⟨b, _, none⟩) hb]; exact c0
      have g1 : wr.cell? ⟨b, off + k * 6 + 1, none⟩ = some (.int .i64 x.need) := by rw [HBK.out.cell (p := ⟨b, _, none⟩) hb]; exact c1
      have g2 : wr.cell? ⟨b, off + k * 6 + 2, none⟩ = some (.int .i64 x.ban) := by rw [HBK.out.cell (p := ⟨b, _, none⟩) hb]; exact c2
      have g3 : wr.cell? ⟨b, off + k * 6 + 3, none⟩ = some (.int .i64 x.ways) := by rw [HBK.out.cell (p := ⟨b, _, none⟩) hb]; exact c3
      have g4 : wr.cell? ⟨b, off + k * 6 + 4, none⟩ = some (.slice oa x.outs.length oc) := by rw [HBK.out.cell (p := ⟨b, _, none⟩) hb]; exact c4
      have g5 : wr.cell? ⟨b, off + k * 6 + 5, none⟩ = some (.slice ia x.ins.length ic) := by rw [HBK.out.cell (p := ⟨b, _, none⟩) hb]; exact c5
      clear e0 e1 e2 e3 e4 e5 c0 c1 c2 c3 c4 c5 ho hi' hln1 hln2 hown hrow hon z0 z1 t0 t1
      have i0 : (0 : Int) ≤ (k : Int) := by omega
      have i1 : (k : Int) < (c.pols.length : Int) := by omega
      have i2 : (k : Int) < (c.pols.length : Int) + 1 := by omega
      have i3 : (k : Int) < ((c.pols.length + 1 : Nat) : Int) := by omega
      have i4 : k < c.pols.length + 1 := by omega
      go_wp2
      go_region_held3 (fun w' => w'.cell? ⟨gq, k * 6, none⟩ = some (.int .i64 x.space) ∧ w'.cell? ⟨gq, k * 6 + 1, none⟩ = some (.int .i64 x.need) ∧ w'.cell? ⟨gq, k * 6 + 2, none⟩ = some (.int .i64 x.ban) ∧ w'.cell? ⟨gq, k * 6 + 3, none⟩ = some (.int .i64 x.ways) ∧ w'.cell? ⟨gq, k * 6 + 4, none⟩ = some (.slice va vn vc) ∧ w'.cell? ⟨gq, k * 6 + 5, none⟩ = some (.slice ta tn tc) ∧ w'.cell? ⟨b, off + k * 6, none⟩ = some (.int .i64 x.space) ∧ w'.cell? ⟨b, off + k * 6 + 1, none⟩ = some (.int .i64 x.need) ∧ w'.cell? ⟨b, off + k * 6 + 2, none⟩ = some (.int .i64 x.ban) ∧ w'.cell? ⟨b, off + k * 6 + 3, none⟩ = some (.int .i64 x.ways) ∧ w'.cell? ⟨b, off + k * 6 + 4, none⟩ = some (.slice oa x.outs.length oc) ∧ w'.cell? ⟨b, off + k * 6 + 5, none⟩ = some (.slice ia x.ins.length ic) ∧ w'.cell? ⟨w.heap.size + 1, 1, none⟩ = some (.slice (some ⟨b, off, none⟩) c.pols.length qc)) (go_keep) (first
        | (go_at_call 87; refine (backPolicy_any x oa ia oc ic va ta vn vc tn tc B (f k) mm (f (k + 1)) _ (rdRules.ext HBK.out.drew (Nat.le_refl _) HO.out) (rdRules.ext HBK.out.drew (Nat.le_refl _) HI.out) (by omega) hm1 hm2 (by show f (k + 1) ≤ wr.heap.size; omega) (lnRules.fwd HO.out HBK.out.drew (HL1.out.heap fun j h1 h2 => HON.out.heap (by omega) (by omega))) (lnRules.fwd HI.out HBK.out.drew (HL2.out.heap fun j h1 h2 => HON.out.heap (by omega) (by omega)))).mono ?_; rintro e w1 ⟨rfl, hon1⟩; have d0' := hon1.cell (g := gq) (o := k * 6) (v := .int .i64 x.space) (by simp [d0]) (by omega); have d1' := hon1.cell (g := gq) (o := k * 6 + 1) (v := .int .i64 x.need) (by simp [d1]) (by omega); have d2' := hon1.cell (g := gq) (o := k * 6 + 2) (v := .int .i64 x.ban) (by simp [d2]) (by omega); have d3' := hon1.cell (g := gq) (o := k * 6 + 3) (v := .int .i64 x.ways) (by simp [d3]) (by omega); have d4' := hon1.cell (g := gq) (o := k * 6 + 4) (v := .slice va vn vc) (by simp [d4]) (by omega); have d5' := hon1.cell (g := gq) (o := k * 6 + 5) (v := .slice ta tn tc) (by simp [d5]) (by omega); have g0' := hon1.cell (g := b) (o := off + k * 6) (v := .int .i64 x.space) (by simp [g0]) (by omega); have g1' := hon1.cell (g := b) (o := off + k * 6 + 1) (v := .int .i64 x.need) (by simp [g1]) (by omega); have g2' := hon1.cell (g := b) (o := off + k * 6 + 2) (v := .int .i64 x.ban) (by simp [g2]) (by omega); have g3' := hon1.cell (g := b) (o := off + k * 6 + 3) (v := .int .i64 x.ways) (by simp [g3]) (by omega); have g4' := hon1.cell (g := b) (o := off + k * 6 + 4) (v := .slice oa x.outs.length oc) (by simp [g4]) (by omega); have g5' := hon1.cell (g := b) (o := off + k * 6 + 5) (v := .slice ia x.ins.length ic) (by simp [g5]) (by omega); have q1' := hon1.cell (g := w.heap.size + 1) (o := 1) (v := .slice (some ⟨b, off, none⟩) c.pols.length qc) (by simp [q1]) (by omega)))
      have HN1 := hid hon1
      have HO1 := hid (show own w1 gq ((c.pols.length + 1) * 6) from own_heap HOW.out (hon1.heap (k := gq) (by show gq < wr.heap.size; omega) (by omega)))
      have hfr := HO1.out.2
      have HON1 := hid (show Only gq (f (k + 1)) V w1 from (HON.out.drew.mono (Nat.le_refl _) hfkk).trans (hon1.mono (by omega) (Nat.le_refl _)))
      clear hon1 q1' g0' g1' g2' g3' g4' g5' d0 d1 d2 d3 d4 d5 g0 g1 g2 g3 g4 g5 q1 q0
      go_wp2
      refine ⟨⟨k + 1, by omega, by go_num, by simp, sets_own _ _ (k * 6) _ [.int .i64 0, .int .i64 0, .int .i64 0, .int .i64 3, .slice none 0 0, .slice none 0 0] HO1.out, fun o ho => ?_, HON1.out.trans ((sets_only _ gq (k * 6) [.int .i64 0, .int .i64 0, .int .i64 0, .int .i64 3, .slice none 0 0, .slice none 0 0]).mono (Nat.le_refl _) (by omega))⟩, by simp [intOf]; omega⟩
      exact (sets_behind _ _ (k * 6) [.int .i64 0, .int .i64 0, .int .i64 0, .int .i64 3, .slice none 0 0, .slice none 0 0] _ (by simp; omega)).trans ((cell_heap (HN1.out.heap (k := gq) (by show gq < wr.heap.size; omega) (by omega))).trans (HRW.out o (by omega)))
    · clear hown hrow hon
      go_wp2
      go_ret
      exact ⟨rfl, (HOV.out.mono (Nat.le_refl _) hmh).trans (HON.out.mono (by omega) (by omega))⟩
end Go.Proofs.YtmkjlhplgcifiaaGreat
