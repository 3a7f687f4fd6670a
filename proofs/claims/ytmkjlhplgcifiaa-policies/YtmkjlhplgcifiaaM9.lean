/-
  Rules given back.
-/
import Derived.Test.YtmkjlhplgcifiaaM8
namespace Go.Proofs.Ytmkjlhplgcifiaa
open Go.ChangeShapes Go.WideShapes Go.ChangeAt Go.RowKit
attribute [local simp] World.cell?_grow
attribute [local go_sem] World.cell?_grow
attribute [local simp] World.cell?_alloc_there
attribute [local go_sem] World.cell?_alloc_there
attribute [local go_sem] eqg_blk std_blk eqg_pod std_pod eqg_sel std_sel eqg_prt std_prt
attribute [local go_sem ↓] eql_blk eql_sel neq_sel eql_prt eql_pod
attribute [local go_sem ↓] met_in1 met_in2 met_re1 met_re2
set_option linter.unusedVariables false
set_option linter.unusedSimpArgs false

theorem lnPeers.fwd {lo hi B : Nat} {w0 w1 w : World} {a : Option Addr} {v : Value} {l : List DPeer} (hr : rdPeers B w0 a l) (hB : Below B w0 w1) (h : lnPeers lo hi w0 w a v l) : lnPeers lo hi w1 w a v l := by
  rcases h with h | ⟨a', g, f, h1, h2, h3, h4, ⟨h5, h5b, h5c, h5d⟩, h6, h7⟩
  · exact Or.inl h
  · refine Or.inr ⟨a', g, f, h1, h2, h3, h4, ⟨h5, h5b, h5c, fun i hi x hx => ?_⟩, h6, h7⟩
    have := h5d i hi x hx
    obtain ⟨b, off, he, hb, _⟩ := hr.2 i x hx
    subst he
    rw [← subA_below hB hb] at this
    exact this
theorem lnRules.fwd {lo hi B : Nat} {w0 w1 w : World} {a : Option Addr} {v : Value} {l : List DRule} (hr : rdRules B w0 a l) (hB : Below B w0 w1) (h : lnRules lo hi w0 w a v l) : lnRules lo hi w1 w a v l := by
  rcases h with h | ⟨a', g, f, h1, h2, h3, h4, ⟨h5, h5b, h5c, h5d⟩, h6, h7⟩
  · exact Or.inl h
  · refine Or.inr ⟨a', g, f, h1, h2, h3, h4, ⟨h5, h5b, h5c, fun i hi x hx => ?_⟩, h6, h7⟩
    obtain ⟨m, s, t, g1, g2, g3, g4, g5, g6⟩ := h5d i hi x hx
    obtain ⟨b, off, he, hb, ⟨pa, pc, c0, hp⟩, qa, qc, c1, hq⟩ := hr.2 i x hx
    subst he
    rw [← subA_below hB hb] at g6
    have c0' : w1.cell? ⟨b, off + i * 2, none⟩ = some (.slice pa x.peers.length pc) := by rw [hB.cell (p := ⟨b, _, none⟩) hb]; exact c0
    refine ⟨m, s, t, g1, g2, g3, g4, ?_, g6⟩
    rw [subA_eq c0] at g5
    rw [subA_eq c0']
    exact lnPeers.fwd hp hB g5

set_option maxRecDepth 100000 in
set_option maxHeartbeats 8000000 in
theorem backRules_some (l : List DRule) (a : Addr) (cap B lo hi g : Nat) (f : Nat → Nat) (w : World) (hr : rdRules B w (some a) l) (hB : B ≤ lo) (hlo : lo ≤ g) (hg : g < hi) (hs : hi ≤ w.heap.size)
    (hL : LnL 2 l.length (eLnRule w (some a) l g) w g f l.length) (hf : f l.length ≤ hi) (hz : w.cell? ⟨g, l.length * 2, none⟩ = some (.slice none 0 0)) (hz1 : ∃ sa sc, w.cell? ⟨g, l.length * 2 + 1, none⟩ = some (.slice sa 1 sc)) :
    Calls Try.prog 36 #[.slice (some ⟨g, 0, none⟩) l.length (l.length + 1), .slice (some a) l.length cap] w fun e w' => e = .returned (.bool true) ∧ Only lo hi w w' := by
  have HR := hid hr
  have HL := hid hL
  have hlen := hr.1
  have HM := hid (mono_le hL.2.2.1)
  have hg0 := hL.2.1
  obtain ⟨sa, sc, hz1⟩ := hz1
  clear hr hL
  have hq : ∀ w, (binOp .eql 35 (.slice (some a) l.length cap) (.slice none 0 0)).run Try.prog w = .ok (.bool false) w := fun w => Lib.run_eql_slice_nil w 35 53 _ _ _ _ _ und_rule
  have hne : ((l.length : Int) != (l.length : Int)) = false := by simp
  go_enter Try.func36, Try.ntmps36
  go_wp2
  go_loopw [6, 7] (fun ok i wr => ∃ k : Nat, k ≤ l.length ∧ i = .int .i64 k ∧ ok = .bool true ∧ Only (f 0) (f k) w wr) (fun _ i _ => l.length - (intOf i).toNat)
  case atStart => exact ⟨0, Nat.zero_le _, rfl, rfl, Only.refl _ _ _⟩
  case round =>
    obtain ⟨k, hk, rfl, rfl, hon⟩ := hrel
    have HN := hid hon
    have hfk := HM.out k l.length hk (Nat.le_refl _)
    have hf0 := HM.out 0 k (Nat.zero_le _) hk
    by_cases hlt : k < l.length
    · obtain ⟨x, hxk⟩ : ∃ x, l[k]? = some x := ⟨l[k], by simp [hlt]⟩
      have HX := hid hxk
      have hfk1 := HM.out (k + 1) l.length hlt (Nat.le_refl _)
      obtain ⟨m, s, t, hm1, hm2, e0, e1, hln1, hln2⟩ := HL.out.2.2.2 k hlt x hxk
      obtain ⟨va, vn, vc, hve⟩ := hln1.sl
      subst hve
      obtain ⟨ta, tn, tc, hte⟩ := hln2.sl
      subst hte
      clear hxk
      obtain ⟨b, off, he, hb, ⟨pa, pc, c0, hrp⟩, qa, qc, c1, hrq⟩ := HR.out.2 k x HX.out
      cases he
      rw [subA_eq (n := x.peers.length) (c := pc) c0] at hln1
      rw [subA_eq (n := x.ports.length) (c := qc) (by rwa [Nat.add_assoc] at c1)] at hln2
      have HP := hid hrp
      have HQ := hid hrq
      have HL1 := hid hln1
      have HL2 := hid hln2
      have HBW := hid (show Below B w wr from hon.below (by omega) (by omega))
      have hsw := hon.2.1
      have d0 := hon.cell e0 (by omega)
      have d1 := hon.cell e1 (by omega)
      have g0 := hon.cell c0 (by omega)
      have g1 := hon.cell c1 (by omega)
      clear e0 e1 c0 c1 hrp hrq hln1 hln2 hon hz hz1
      have i0 : (0 : Int) ≤ (k : Int) := by omega
      have i1 : (k : Int) < (l.length : Int) := by omega
      have i2 : (k : Int) < (l.length : Int) + 1 := by omega
      have i3 : (k : Int) < ((l.length + 1 : Nat) : Int) := by omega
      have i4 : k < l.length + 1 := by omega
      go_wp2
      go_region_held3 (fun w' => w'.cell? ⟨g, k * 2, none⟩ = some (.slice va vn vc) ∧ w'.cell? ⟨b, off + k * 2, none⟩ = some (.slice pa x.peers.length pc)) (go_keep) (first
        | (go_at_call 56; refine (backPeers_any x.peers pa (.slice va vn vc) pc B (f k) m _ (rdPeers.ext (HBW.out.drew) (Nat.le_refl _) HP.out) (by omega) (by show m ≤ wr.heap.size; omega) (lnPeers.fwd HP.out HBW.out.drew (HL1.out.heap fun j h1 h2 => HN.out.heap (by omega) (by omega)))).mono ?_; rintro e w1 ⟨rfl, hon1⟩; have d0' := hon1.cell (g := g) (o := k * 2) (v := .slice va vn vc) (by simp [d0]) (by omega); have g0' := hon1.cell (g := b) (o := off + k * 2) (v := .slice pa x.peers.length pc) (by simp [g0]) (by omega)))
      have E1 := hon1.cell (g := g) (o := k * 2 + 1) (v := .slice ta tn tc) (by simp [d1]) (by omega)
      have G1 := hon1.cell (g := b) (o := off + k * 2 + 1) (v := .slice qa x.ports.length qc) (by simp [g1]) (by omega)
      have HON1 := hid hon1
      have hsw1 : wr.heap.size ≤ w1.heap.size := hon1.2.1
      have HBW1 := hid (show Below B w w1 from HBW.out.drew.trans (hon1.below (B := B) (by omega) (by show B ≤ wr.heap.size; omega)))
      have HN1 := hid (show Only (f 0) m w w1 from (HN.out.drew.mono (Nat.le_refl _) hm1).trans (hon1.mono hf0 (Nat.le_refl _)))
      clear hon1 d0' g0' d0 g0 d1 g1
      go_wp2
      go_region_held3 (fun w' => w'.cell? ⟨g, k * 2 + 1, none⟩ = some (.slice ta tn tc) ∧ w'.cell? ⟨b, off + k * 2 + 1, none⟩ = some (.slice qa x.ports.length qc)) (go_keep) (first
        | (go_at_call 57; refine (backPorts_any x.ports qa (.slice ta tn tc) qc B m (f (k + 1)) _ (rdPorts.ext (HBW1.out.drew) (Nat.le_refl _) HQ.out) (by omega) (HL2.out.heap fun j h1 h2 => HN1.out.heap (by omega) (by omega))).mono ?_; rintro e w2 ⟨rfl, hon2⟩; have d1' := hon2.cell (g := g) (o := k * 2 + 1) (v := .slice ta tn tc) (by simp [E1]) (by omega); have g1' := hon2.cell (g := b) (o := off + k * 2 + 1) (v := .slice qa x.ports.length qc) (by simp [G1]) (by omega)))
      have HN2 := hid (show Only (f 0) (f (k + 1)) w w2 from (HN1.out.drew.mono (Nat.le_refl _) hm2).trans (hon2.mono (by omega) (Nat.le_refl _)))
      clear hon2 d1' g1' E1 G1
      go_wp2
      exact ⟨⟨k + 1, by omega, by go_num, by simp, HN2.out⟩, by simp [intOf]; omega⟩
    · have HOW := hid (own_heap HL.out.1 (hon.heap (k := g) (by omega) (by omega)))
      have HON := hid (hon.mono (lo' := lo) (hi' := hi) (by omega) (by omega))
      clear hon hz hz1
      go_wp2
      go_loopw [10] (fun i wr => ∃ k : Nat, k ≤ l.length + 1 ∧ i = .int .i64 k ∧ own wr g ((l.length + 1) * 2) ∧ Only lo hi w wr) (fun i _ => l.length + 1 - (intOf i).toNat)
      case atStart => exact ⟨0, Nat.zero_le _, rfl, HOW.out, HON.out⟩
      case round =>
        obtain ⟨k, hk, rfl, hown, hon⟩ := hrel
        have HON := hid hon
        have HOW := hid hown
        by_cases hlt2 : k < l.length + 1
        · have hfr := hown.2
          obtain ⟨v0, e0⟩ := hown.1 (k * 2) (by omega)
          obtain ⟨v1, e1⟩ := hown.1 (k * 2 + 1) (by omega)
          clear hown hon
          go_wp2
          exact ⟨⟨k + 1, by omega, by go_num, sets_own _ _ (k * 2) _ [.slice none 0 0, .slice none 0 0] HOW.out, HON.out.trans ((sets_only _ g (k * 2) [.slice none 0 0, .slice none 0 0]).mono hlo (by omega))⟩, by simp [intOf]; omega⟩
        · clear hown hon
          go_wp2
          go_ret
          exact ⟨rfl, HON.out⟩

theorem backRules_nil (hc cap : Nat) (w : World) :
    Calls Try.prog 36 #[.slice none 0 hc, .slice none 0 cap] w fun e w' => e = .returned (.bool true) ∧ w' = w := by
  have hq : ∀ c w, (binOp .eql 35 (.slice none 0 c) (.slice none 0 0)).run Try.prog w = .ok (.bool true) w := fun c w => Lib.run_eql_slice_nil w 35 53 _ _ _ _ _ und_rule
  go_enter Try.func36, Try.ntmps36
  go_wp2
  go_ret
  exact ⟨rfl, rfl⟩
theorem backRules_any (l : List DRule) (a : Option Addr) (v : Value) (cap B lo hi : Nat) (w : World) (hr : rdRules B w a l) (hB : B ≤ lo) (hs : hi ≤ w.heap.size) (hl : lnRules lo hi w w a v l) :
    Calls Try.prog 36 #[v, .slice a l.length cap] w fun e w' => e = .returned (.bool true) ∧ Only lo hi w w' := by
  rcases hl with ⟨rfl, rfl, rfl⟩ | ⟨a', g, f, rfl, h2, h3, rfl, h5, h6, h7, h8⟩
  · refine (backRules_nil 0 cap w).mono ?_
    rintro e w' ⟨rfl, rfl⟩
    exact ⟨rfl, Only.refl _ _ _⟩
  · exact backRules_some l a' cap B lo hi g f w hr hB h2 h3 hs h5 h6 h7 h8

set_option maxRecDepth 100000 in
set_option maxHeartbeats 8000000 in
theorem backPolicy_any (p : DPol) (oa ia : Option Addr) (oc ic : Nat) (s t : Option Addr) (sn sc tn tc B lo m hi : Nat) (w : World) (ho : rdRules B w oa p.outs) (hi' : rdRules B w ia p.ins) (hB : B ≤ lo) (hlm : lo ≤ m) (hmh : m ≤ hi) (hs : hi ≤ w.heap.size)
    (hl1 : lnRules lo m w w oa (.slice s sn sc) p.outs) (hl2 : lnRules m hi w w ia (.slice t tn tc) p.ins) :
    Calls Try.prog 19 #[.agg #[.int .i64 p.space, .int .i64 p.need, .int .i64 p.ban, .int .i64 p.ways, .slice s sn sc, .slice t tn tc], .agg #[.int .i64 p.space, .int .i64 p.need, .int .i64 p.ban, .int .i64 p.ways, .slice oa p.outs.length oc, .slice ia p.ins.length ic]] w fun e w' => e = .returned (.bool true) ∧ Only lo hi w w' := by
  have HO := hid ho
  have HI := hid hi'
  have HL1 := hid hl1
  have HL2 := hid hl2
  clear ho hi' hl1 hl2
  go_enter Try.func19, Try.ntmps19
  go_wp2_with fail
  generalize hW : (w.alloc (Obj.cells #[.int .i64 p.space, .int .i64 p.need, .int .i64 p.ban, .int .i64 p.ways, .slice s sn sc, .slice t tn tc] 37)).alloc (Obj.cells #[.int .i64 p.space, .int .i64 p.need, .int .i64 p.ban, .int .i64 p.ways, .slice oa p.outs.length oc, .slice ia p.ins.length ic] 37) = W
  have hsW : W.heap.size = w.heap.size + 2 := by rw [← hW]; simp
  have a0 : W.cell? ⟨w.heap.size, 0, none⟩ = some (.int .i64 p.space) := by rw [← hW]; simp [go_sem]
  have a1 : W.cell? ⟨w.heap.size, 1, none⟩ = some (.int .i64 p.need) := by rw [← hW]; simp [go_sem]
  have a2 : W.cell? ⟨w.heap.size, 2, none⟩ = some (.int .i64 p.ban) := by rw [← hW]; simp [go_sem]
  have a3 : W.cell? ⟨w.heap.size, 3, none⟩ = some (.int .i64 p.ways) := by rw [← hW]; simp [go_sem]
  have a5 : W.cell? ⟨w.heap.size, 5, none⟩ = some (.slice t tn tc) := by rw [← hW]; simp [go_sem]
  have b0 : W.cell? ⟨w.heap.size + 1, 0, none⟩ = some (.int .i64 p.space) := by rw [← hW]; simp [go_sem]
  have b1 : W.cell? ⟨w.heap.size + 1, 1, none⟩ = some (.int .i64 p.need) := by rw [← hW]; simp [go_sem]
  have b2 : W.cell? ⟨w.heap.size + 1, 2, none⟩ = some (.int .i64 p.ban) := by rw [← hW]; simp [go_sem]
  have b3 : W.cell? ⟨w.heap.size + 1, 3, none⟩ = some (.int .i64 p.ways) := by rw [← hW]; simp [go_sem]
  have b5 : W.cell? ⟨w.heap.size + 1, 5, none⟩ = some (.slice ia p.ins.length ic) := by rw [← hW]; simp [go_sem]
  have HBW := hid (show Below w.heap.size w W from by rw [← hW]; exact (by repeat (first | exact Below.refl _ _ | assumption | apply Ext.alloc | apply Ext.drewN | apply Ext.drew | refine Ext.trans ?_ (by assumption))))
  clear hW
  have hBW : Below B w W := HBW.out.mono (by omega)
  refine (backRules_any p.outs oa (.slice s sn sc) oc B lo m W (rdRules.ext hBW (Nat.le_refl _) HO.out) hB (by omega) (lnRules.fwd HO.out hBW (HL1.out.heap fun j h1 h2 => HBW.out.block j (by omega)))).mono ?_
  rintro e w1 ⟨rfl, hon1⟩
  have c0 := hon1.cell a0 (by omega)
  have c1 := hon1.cell a1 (by omega)
  have c2 := hon1.cell a2 (by omega)
  have c3 := hon1.cell a3 (by omega)
  have c5 := hon1.cell a5 (by omega)
  have d0 := hon1.cell b0 (by omega)
  have d1 := hon1.cell b1 (by omega)
  have d2 := hon1.cell b2 (by omega)
  have d3 := hon1.cell b3 (by omega)
  have d5 := hon1.cell b5 (by omega)
  have HON1 := hid hon1
  have hs1 := hon1.2.1
  have hB1 : Below B w w1 := hBW.trans (hon1.below hB (by omega))
  clear a0 a1 a2 a3 a5 b0 b1 b2 b3 b5 hon1
  go_wp2_with fail
  refine (backRules_any p.ins ia (.slice t tn tc) ic B m hi w1 (rdRules.ext hB1 (Nat.le_refl _) HI.out) (by omega) (by omega) (lnRules.fwd HI.out hB1 (HL2.out.heap fun j h1 h2 => by rw [HON1.out.heap (by omega) (by omega)]; exact HBW.out.block j (by omega)))).mono ?_
  rintro e w2 ⟨rfl, hon2⟩
  have a0 := hon2.cell c0 (by omega)
  have a1 := hon2.cell c1 (by omega)
  have a2 := hon2.cell c2 (by omega)
  have a3 := hon2.cell c3 (by omega)
  have b0 := hon2.cell d0 (by omega)
  have b1 := hon2.cell d1 (by omega)
  have b2 := hon2.cell d2 (by omega)
  have b3 := hon2.cell d3 (by omega)
  have HF := hid (show Only lo hi w w2 from ((Only.of_below HBW.out).trans (HON1.out.mono (Nat.le_refl _) hmh)).trans (hon2.mono hlm (Nat.le_refl _)))
  clear c0 c1 c2 c3 c5 d0 d1 d2 d3 d5 hon2
  go_wp2
  go_ret
  exact ⟨rfl, HF.out⟩
end Go.Proofs.Ytmkjlhplgcifiaa
