/-
  palisadekeep: cluster, walked: the lists of its policies are each their own.
-/
import Derived.Test.YtmkjlhplgcifiaaGreatJ33
import Derived.Test.YtmkjlhplgcifiaaGreatJ40
namespace Go.Proofs.YtmkjlhplgcifiaaGreat
open Go.ChangeShapes Go.WideShapes Go.ChangeAt Go.RowKit
attribute [local simp] World.cell?_grow
attribute [local go_sem] World.cell?_grow
attribute [local simp] World.cell?_alloc_there
attribute [local go_sem] World.cell?_alloc_there
attribute [local go_sem] eqg_blk std_blk eqg_pod std_pod eqg_sel std_sel eqg_prt std_prt
attribute [local go_sem ↓] eql_blk eql_sel neq_sel eql_prt eql_pod
attribute [local go_sem ↓] met_in1 met_in2 met_re1 met_re2
attribute [local go_sem ↓] met_has1 met_has2
attribute [local go_sem ↓] met_bl1 met_bl2
attribute [local go_sem] eqg_row std_row
attribute [local go_sem ↓] neq_row
set_option linter.unusedVariables false
set_option linter.unusedSimpArgs false
/-- a policy and where its lists lie -/
structure QPol where
  x : RPol
  lo : Nat
  mid : Nat
  hi : Nat
def OwnAll (base : Nat) (w : World) (v : Value) (ys : List RPol) : Prop :=
  ∃ zs : List QPol, zs.map (·.x) = ys ∧ (zs.Pairwise fun a b => a.hi ≤ b.lo) ∧ ∀ z ∈ zs, base ≤ z.lo ∧ z.hi ≤ w.heap.size ∧ PolIn w z.x z.lo z.mid z.hi ∧ ∀ g, v.ownBlock = some g → g < z.lo ∨ z.hi ≤ g
theorem OwnAll.nil (base : Nat) (w : World) : OwnAll base w (.slice none 0 0) [] := ⟨[], rfl, List.Pairwise.nil, fun z hz => by simp at hz⟩
theorem OwnAll.to {base : Nat} {w w' : World} {v : Value} {ys : List RPol} (h : OwnAll base w v ys) (hb : ∀ b, base ≤ b → b < w.heap.size → v.ownBlock ≠ some b → w'.heap[b]? = w.heap[b]?) (hs : w.heap.size ≤ w'.heap.size) : OwnAll base w' v ys := by
  obtain ⟨zs, h1, h2, h3⟩ := h
  refine ⟨zs, h1, h2, fun z hz => ?_⟩
  obtain ⟨a, b, c, d⟩ := h3 z hz
  exact ⟨a, by omega, c.to fun x h5 h6 => hb x (by omega) (by omega) (fun e => by have := d x e; omega), d⟩
theorem OwnAll.app {base : Nat} {wa w2 Z w8 F : World} {v v8 : Value} {ys : List RPol} {y : RPol} (h : OwnAll base wa v ys) (hb : Below wa.heap.size wa w2) (hy : PolNew wa.heap.size w2 y) (hZ : Below w2.heap.size w2 Z) (hg : Z.grownBy w8 v.ownBlock) (hv : ∀ g, v.ownBlock = some g → base ≤ g ∧ g < wa.heap.size) (ha : v8.ownBlock = v.ownBlock ∨ v8.ownBlock = some Z.heap.size) (hbase : base ≤ wa.heap.size) (hF : ∀ b, base ≤ b → F.heap[b]? = w8.heap[b]?) (hFs : F.heap.size = w8.heap.size) : OwnAll base F v8 (ys ++ [y]) := by
  obtain ⟨zs, h1, h2, h3⟩ := h
  obtain ⟨lo, mid, hi, n1, n2, n3⟩ := hy
  have s1 := hb.size
  have s2 := hZ.size
  have s3 := hg.size
  refine ⟨zs ++ [⟨y, lo, mid, hi⟩], by rw [List.map_append, h1]; rfl, List.pairwise_append.2 ⟨h2, by simp, fun a ha b hb => ?_⟩, fun z hz => ?_⟩
  · rw [List.mem_singleton] at hb; subst hb
    have := (h3 a ha).2.1
    show a.hi ≤ lo
    omega
  · rcases List.mem_append.1 hz with hz | hz
    · obtain ⟨p1, p2, p3, p4⟩ := h3 z hz
      refine ⟨p1, by omega, p3.to fun x q1 q2 => ?_, fun g hg' => ?_⟩
      · rw [hF x (by omega), hg.block x (by omega) (fun e => by have := p4 x e.symm; omega), hZ.block x (by omega), hb.block x (by omega)]
      · rcases ha with e | e
        · exact p4 g (e ▸ hg')
        · rw [e] at hg'; cases hg'; exact .inr (by omega)
    · rw [List.mem_singleton] at hz; subst hz
      refine ⟨by show base ≤ lo; omega, by show hi ≤ _; omega, n3.to fun x q1 q2 => ?_, fun g hg' => ?_⟩
      · have q1 : lo ≤ x := q1
        have q2 : x < hi := q2
        rw [hF x (by omega), hg.block x (by omega) (fun e => by have := hv x e.symm; omega), hZ.block x (by omega)]
      · show g < lo ∨ hi ≤ g
        rcases ha with e | e
        · have := hv g (e ▸ hg'); omega
        · rw [e] at hg'; cases hg'; omega
/-- v and v' are the lists of a right cluster; the policies' lists are each their own -/
def CluOwn (B : Nat) (w' : World) (v v' : Value) (c : DClu) : Prop :=
  ∃ (m : Nat) (ys : List RPol), B ≤ m ∧ UpPods B w' v (mkPods c.pods) ∧ (∀ g, v.ownBlock = some g → g < m) ∧ UpPols m w' v' ys ∧ ys.map (·.d) = (c.pols.take 4).map mkPol ∧ OwnAll m w' v' ys
set_option maxRecDepth 100000 in
set_option maxHeartbeats 4000000 in
theorem mkClu_own (c : DClu) (pa qa : Option Addr) (pc qc : Nat) (w : World) (hp : rdPods w.heap.size w pa c.pods) (hq : rdPols w.heap.size w qa c.pols) (hi : iClu c) :
    Calls Tryz.prog 13 #[.agg #[.slice pa c.pods.length pc, .slice qa c.pols.length qc]] w
      fun e w' => (∃ v v', e = .returned (.agg #[v, v']) ∧ CluOwn w.heap.size w' v v' c) ∧ Below w.heap.size w w' := by
  have HP := hid hp
  have HQ := hid hq
  have hlen := hp.1
  have hqlen := hq.1
  have HI := hid hi.1
  have HI2 := hid hi.2
  clear hp hq hi
  obtain ⟨ip0, hip, ipz0, ipz1, ipz2⟩ := info_parts info_pod
  obtain ⟨iq0, hiq, iqz0, iqz1, iqz2⟩ := info_parts info_pol
  go_enter Tryz.func13, Tryz.ntmps13
  go_upto_block 0 with fail
  have q0 : (((w.alloc (.cells #[.slice pa c.pods.length pc, .slice qa c.pols.length qc] 28)).alloc (.cells #[.slice none 0 0, .slice none 0 0] 28)).alloc (.cells #[.slice none 0 0, .slice none 0 0] 28)).heap[w.heap.size]? = some (.cells #[.slice pa c.pods.length pc, .slice qa c.pols.length qc] 28 (0, 0)) := (Below.heap_alloc _ _ _ (by simp only [World.size_alloc]; omega)).trans ((Below.heap_alloc _ _ _ (by simp)).trans (new_heap _ _))
  have q1 : (((w.alloc (.cells #[.slice pa c.pods.length pc, .slice qa c.pols.length qc] 28)).alloc (.cells #[.slice none 0 0, .slice none 0 0] 28)).alloc (.cells #[.slice none 0 0, .slice none 0 0] 28)).heap[w.heap.size + 1]? = some (.cells #[.slice none 0 0, .slice none 0 0] 28 (0, 0)) := by
    have := new_heap (w.alloc (.cells #[.slice pa c.pods.length pc, .slice qa c.pols.length qc] 28)) (.cells #[.slice none 0 0, .slice none 0 0] 28)
    simp only [World.size_alloc] at this
    exact (Below.heap_alloc _ _ _ (by simp)).trans this
  have q2 : (((w.alloc (.cells #[.slice pa c.pods.length pc, .slice qa c.pols.length qc] 28)).alloc (.cells #[.slice none 0 0, .slice none 0 0] 28)).alloc (.cells #[.slice none 0 0, .slice none 0 0] 28)).heap[w.heap.size + 1 + 1]? = some (.cells #[.slice none 0 0, .slice none 0 0] 28 (0, 0)) := by
    have := new_heap ((w.alloc (.cells #[.slice pa c.pods.length pc, .slice qa c.pols.length qc] 28)).alloc (.cells #[.slice none 0 0, .slice none 0 0] 28)) (.cells #[.slice none 0 0, .slice none 0 0] 28)
    simp only [World.size_alloc] at this
    exact this
  have hB : Below w.heap.size w (((w.alloc (.cells #[.slice pa c.pods.length pc, .slice qa c.pols.length qc] 28)).alloc (.cells #[.slice none 0 0, .slice none 0 0] 28)).alloc (.cells #[.slice none 0 0, .slice none 0 0] 28)) := (by repeat (first | exact Below.refl _ _ | assumption | apply Ext.alloc | apply Ext.drewN | apply Ext.drew | refine Ext.trans ?_ (by assumption)))
  have hS : w.heap.size + 1 + 1 < (((w.alloc (.cells #[.slice pa c.pods.length pc, .slice qa c.pols.length qc] 28)).alloc (.cells #[.slice none 0 0, .slice none 0 0] 28)).alloc (.cells #[.slice none 0 0, .slice none 0 0] 28)).heap.size := by simp only [World.size_alloc]; omega
  generalize (((w.alloc (.cells #[.slice pa c.pods.length pc, .slice qa c.pols.length qc] 28)).alloc (.cells #[.slice none 0 0, .slice none 0 0] 28)).alloc (.cells #[.slice none 0 0, .slice none 0 0] 28)) = W at q0 q1 q2 hB hS ⊢
  have hx1 : w.heap.size + 1 < w.heap.size + 1 + 1 := by omega
  generalize w.heap.size + 1 + 1 = xb at *
  have HB := hid hB
  have Q0 := hid q0
  have Q1 := hid q1
  have Q2 := hid q2
  clear hB q0 q1 q2
  go_cut [] from 4 to 62 (fun wx => ∃ v, wx.heap[xb]? = some (.cells #[v, .slice none 0 0] 28 (0, 0)) ∧ UpPods W.heap.size wx v (mkPods c.pods) ∧ W.grownBy wx (some xb))
  case first =>
    go_wp2_with fail
    go_loopw [4] (fun i wr => ∃ (k : Nat) (v : Value), k ≤ c.pods.length ∧ i = .int .i64 k ∧ wr.heap[xb]? = some (.cells #[v, .slice none 0 0] 28 (0, 0)) ∧ UpPods W.heap.size wr v ((c.pods.take k).foldl addPod []) ∧ W.grownBy wr (some xb)) (fun i _ => c.pods.length - (intOf i).toNat)
    case atStart => exact ⟨0, .slice none 0 0, Nat.zero_le _, rfl, Q2.out, Up.nil _ _, gb_refl _ _⟩
    case round =>
      obtain ⟨k, v, hk, rfl, hxb, hup, hg⟩ := hrel
      obtain ⟨wa, hwa⟩ : ∃ wa, wa = wr := ⟨_, rfl⟩
      subst hwa
      have hxl := (foldPods_good (c.pods.take k) [] podsGood_nil).1
      obtain ⟨xs, hxs⟩ : ∃ xs, xs = (c.pods.take k).foldl addPod [] := ⟨_, rfl⟩
      rw [← hxs] at hup hxl
      obtain ⟨va, vc, rfl, hvc, hrd⟩ := upPods_done hup (by omega)
      have HXS := hid hxs
      have HU := hid hup
      have HXB := hid hxb
      have HG := hid hg
      have HRD := hid (rdPods.sub (Sub.show _ _) (Nat.le_refl _) hrd)
      have hsg := hg.size
      have HBw := hid (show Below w.heap.size w wa from HB.out.trans (gb_low hg (by omega) (by omega)))
      have g0 : wa.cell? ⟨xb, 0, none⟩ = some (.slice va xs.length vc) := (blk_cell hxb 0).trans rfl
      have g1 : wa.cell? ⟨xb, 1, none⟩ = some (.slice none 0 0) := (blk_cell hxb 1).trans rfl
      have gf := blk_frozen hxb
      have c0 : wa.cell? ⟨w.heap.size, 0, none⟩ = some (.slice pa c.pods.length pc) := (blk_cell ((hg.block w.heap.size (by omega) (fun e => by cases e; omega)).trans Q0.out) 0).trans rfl
      clear hxs hup hxb hg hrd
      by_cases hlt : k < c.pods.length
      · have z1 : (k : Int) < (c.pods.length : Int) := by omega
        by_cases hl8 : xs.length < 8
        · have z2 : (xs.length : Int) < 8 := by omega
          obtain ⟨p, hpk⟩ : ∃ p, c.pods[k]? = some p := ⟨c.pods[k], by simp [hlt]⟩
          have HPK := hid hpk
          obtain ⟨b, off, rfl, hb, e0, e1, e2, e3⟩ := HP.out.2 k p hpk
          obtain ⟨i0, i1, i2, i3⟩ := HI.out p (List.mem_of_getElem? hpk)
          have d0 := cell_to e0 HBw.out
          have d1 := cell_to e1 HBw.out
          have d2 := cell_to e2 HBw.out
          have d3 := cell_to e3 HBw.out
          clear hpk e0 e1 e2 e3
          go_wp2_with fail
          go_cut [5] from 22 to 50 (fun x wx => x = .pointer (some ⟨wa.heap.size, 0, none⟩) ∧ wx = (wa.alloc (.cells #[.int .i64 (pk p.host 4), .int .i64 (pk p.ip 4294967296), .int .i64 (pk p.space 4), .int .i64 (pk p.labels 256)] 54)).drew)
          case first =>
            go_region_held3 (fun w' => w'.cell? ⟨w.heap.size, 0, none⟩ = some (.slice (some ⟨b, off, none⟩) c.pods.length pc) ∧ w'.cell? ⟨b, off + k * 4, none⟩ = some (.int .i64 p.host) ∧ w'.cell? ⟨b, off + k * 4 + 1, none⟩ = some (.int .i64 p.ip) ∧ w'.cell? ⟨b, off + k * 4 + 2, none⟩ = some (.int .i64 p.space) ∧ w'.cell? ⟨b, off + k * 4 + 3, none⟩ = some (.int .i64 p.labels)) (go_keep) (first
              | (go_at_call 22; refine (pick_any _ _ _ (by assumption) (by decide) (by decide)).mono ?_; rintro e w' ⟨rfl, rfl⟩))
            all_goals (
              go_wp2_with fail
              go_meet
              exact ⟨rfl, rfl⟩)
          case rest =>
            obtain ⟨rfl, hwx⟩ := hcut
            have n1 : wc.heap[wa.heap.size]? = some (.cells #[.int .i64 (pk p.host 4), .int .i64 (pk p.ip 4294967296), .int .i64 (pk p.space 4), .int .i64 (pk p.labels 256)] 54 (0, 0)) := by rw [hwx]; exact new_heap wa _
            have hB7 : Below wa.heap.size wa wc := by rw [hwx]; exact (by repeat (first | exact Below.refl _ _ | assumption | apply Ext.alloc | apply Ext.drewN | apply Ext.drew | refine Ext.trans ?_ (by assumption)))
            have hs7 : wa.heap.size + 1 ≤ wc.heap.size := by rw [hwx]; show _ ≤ (World.alloc wa _).heap.size; rw [World.size_alloc]; omega
            have k0 : wc.cell? ⟨wa.heap.size, 0, none⟩ = some (.int .i64 (pk p.host 4)) := (blk_cell n1 0).trans rfl
            have k1 : wc.cell? ⟨wa.heap.size, 1, none⟩ = some (.int .i64 (pk p.ip 4294967296)) := (blk_cell n1 1).trans rfl
            have k2 : wc.cell? ⟨wa.heap.size, 2, none⟩ = some (.int .i64 (pk p.space 4)) := (blk_cell n1 2).trans rfl
            have k3 : wc.cell? ⟨wa.heap.size, 3, none⟩ = some (.int .i64 (pk p.labels 256)) := (blk_cell n1 3).trans rfl
            have kf := blk_frozen n1
            have HB7 := hid hB7
            have HX7 := hid (show wc.heap[xb]? = _ from (hB7.block xb (by omega)).trans HXB.out)
            have x0 : wc.cell? ⟨xb, 0, none⟩ = some (.slice va xs.length vc) := (blk_cell HX7.out 0).trans rfl
            have x1 : wc.cell? ⟨xb, 1, none⟩ = some (.slice none 0 0) := (blk_cell HX7.out 1).trans rfl
            have HRD7 := hid (rdPods.ext hB7 hB7.size HRD.out)
            have HU7 := hid (HU.out.grow NNo.mono hB7)
            have HVB := hid (show ∀ g, (Value.slice va xs.length vc).ownBlock = some g → W.heap.size ≤ g from fun g hg => (HU.out.lt g hg).1)
            have HVL := hid (show ∀ g, (Value.slice va xs.length vc).ownBlock = some g → g < wa.heap.size from fun g hg => (HU.out.lt g hg).2)
            clear hwx n1 hB7 d0 d1 d2 d3 c0 g0 g1 gf i0 i1 i2 i3
            by_cases hix : ixOf xs (pk p.ip 4294967296) < 0
            · have HADD := hid (show (c.pods.take (k + 1)).foldl addPod [] = xs ++ [mkPod p] by rw [fold_snoc HPK.out, ← HXS.out, addPod, if_pos ⟨hl8, hix⟩])
              go_wp2_with (first
                | (go_at_call 24; go_must (refine (keepAt_any xs (pk p.ip 4294967296) va none vc 0 0 wc HRD7.out).mono ?_); rintro e w3 ⟨rfl, hb3⟩; have HB3 := hid hb3; have hs3 := hb3.size; have y0 := cell_to x0 hb3; have m0 := cell_to k0 hb3; have m1 := cell_to k1 hb3; have m2 := cell_to k2 hb3; have m3 := cell_to k3 hb3; have HX3 := hid ((hb3.block xb (by omega)).trans HX7.out); have yf := blk_frozen HX3.out; have HU3 := hid (HU7.out.grow NNo.mono hb3); clear hb3 x0 x1 k0 k1 k2 k3 kf)
                | (at_builtin; go_must (refine wpList_append_own_at _ rfl _ _ 25 rfl W.heap.size 54 ip0 _ 4 32 Tryz.underlying25 hip ipz0 ipz1 ipz2 rfl (by decide) _ _ _ rfl (HU3.out.1.alloc (.cells #[.int .i64 (pk p.host 4), .int .i64 (pk p.ip 4294967296), .int .i64 (pk p.space 4), .int .i64 (pk p.labels 256)] 54)) ⟨w3.heap.size, 0, none⟩ 1 1 (encPod (mkPod p)) rfl rfl (cell_new_list w3 (encPod (mkPod p)) _) (by intro u hu; simp only [encPod, List.mem_cons, List.not_mem_nil, or_false] at hu; rcases hu with rfl | rfl | rfl | rfl <;> rfl) (by unfold maxLen; omega) (by omega) (by rw [World.size_alloc]; omega) ?_); intro v' w8 hown8 hg8 hnil8 hat8; obtain ⟨a8, c8, rfl, _, _⟩ := own_slice hown8; have t8 : w8.heap[xb]? = some (.cells #[.slice va xs.length vc, .slice none 0 0] 28 (0, 0)) := (hg8.block xb (by rw [World.size_alloc]; omega) (fun e => by have := HVB.out _ e.symm; omega)).trans ((Below.heap_alloc _ _ _ (by omega)).trans HX3.out); have y8 : w8.cell? ⟨xb, 0, none⟩ = some (.slice va xs.length vc) := (blk_cell t8 0).trans rfl; have yf8 := blk_frozen t8; have HT8 := hid t8; have HO8 := hid hown8; have HG8 := hid hg8; have HA8 := hid hat8; clear hown8 hg8 hnil8 hat8 t8))
              have HZA := hid (show Below wa.heap.size wa (w3.alloc (.cells #[.int .i64 (pk p.host 4), .int .i64 (pk p.ip 4294967296), .int .i64 (pk p.space 4), .int .i64 (pk p.labels 256)] 54)) from (HB7.out.trans (HB3.out.mono HB7.out.size)).alloc (by omega) _)
              refine ⟨⟨k + 1, _, by omega, by go_num, (set_blk HT8.out 0 _).trans rfl, ?_, gb_set (gb_row (gb_below HG.out HZA.out) HG8.out HVB.out) 0 _⟩, by simp [intOf]; omega⟩
              rw [HADD.out]
              exact Up.set NNo.mono (Up.app NNo.mono (m := wa.heap.size) (HU.out.grow NNo.mono HZA.out) hsg (fun g hg => HVL.out g hg) trivial HO8.out HG8.out HA8.out) ⟨xb, 0, none⟩ _ (by show xb < W.heap.size; omega)
            · have HADD := hid (show (c.pods.take (k + 1)).foldl addPod [] = xs by rw [fold_snoc HPK.out, ← HXS.out, addPod, if_neg (fun h => hix h.2)])
              go_wp2_with (go_at_call 24; go_must (refine (keepAt_any xs (pk p.ip 4294967296) va none vc 0 0 wc HRD7.out).mono ?_); rintro e w3 ⟨rfl, hb3⟩; have HB3 := hid hb3; have hs3 := hb3.size; have y0 := cell_to x0 hb3; have m0 := cell_to k0 hb3; have m1 := cell_to k1 hb3; have m2 := cell_to k2 hb3; have m3 := cell_to k3 hb3; have HX3 := hid ((hb3.block xb (by omega)).trans HX7.out); have yf := blk_frozen HX3.out; have HU3 := hid (HU7.out.grow NNo.mono hb3); clear hb3 x0 x1 k0 k1 k2 k3 kf)
              refine ⟨⟨k + 1, _, by omega, by go_num, HX3.out, by rw [HADD.out]; exact HU3.out, gb_below HG.out (HB7.out.trans (HB3.out.mono HB7.out.size))⟩, by simp [intOf]; omega⟩
        · have HE := hid (mkPods_take (l := c.pods) (k := k) (by rw [← HXS.out]; omega))
          have z2 : ¬ (xs.length : Int) < 8 := by omega
          go_wp2
          go_meet
          exact ⟨_, HXB.out, by rw [← HE.out, ← HXS.out]; exact HU.out, HG.out⟩
      · have HE := hid (show xs = mkPods c.pods by rw [HXS.out, List.take_of_length_le (by omega)]; rfl)
        have z1 : ¬ (k : Int) < (c.pods.length : Int) := by omega
        go_wp2
        go_meet
        exact ⟨_, HXB.out, by rw [← HE.out]; exact HU.out, HG.out⟩
  case rest =>
    obtain ⟨v, hxb, hup, hg⟩ := hcut
    obtain ⟨M, hM⟩ : ∃ M, M = wc := ⟨_, rfl⟩
    subst hM
    obtain ⟨va, vc, hv, _⟩ := hup.slice
    have HV := hid hv
    clear hv
    have hpl := (mkPods_good c.pods).1
    have HUP := hid hup
    have HXM := hid hxb
    have HGM := hid hg
    have hsM := hg.size
    have HBM := hid (show Below w.heap.size w M from HB.out.trans (gb_low hg (by omega) (by omega)))
    have c1 : M.cell? ⟨w.heap.size, 1, none⟩ = some (.slice qa c.pols.length qc) := (blk_cell ((hg.block w.heap.size (by omega) (fun e => by cases e; omega)).trans Q0.out) 1).trans rfl
    have HRM := hid ((hg.block (w.heap.size + 1) (by omega) (fun e => by cases e; omega)).trans Q1.out)
    have hvm : ∀ g, v.ownBlock = some g → g < M.heap.size := fun g h => (hup.lt g h).2
    have HVM := hid hvm
    clear hxb hup hg hvm
    go_wp2_with fail
    go_loopw [7] (fun i wr => ∃ (k : Nat) (v' : Value) (ys : List RPol), k ≤ (c.pols.take 4).length ∧ i = .int .i64 k ∧ ys.map (·.d) = ((c.pols.take 4).take k).map mkPol ∧ wr.heap[xb]? = some (.cells #[v, v'] 28 (0, 0)) ∧ UpPols M.heap.size wr v' ys ∧ M.grownBy wr (some xb) ∧ OwnAll M.heap.size wr v' ys) (fun i _ => (c.pols.take 4).length - (intOf i).toNat)
    case atStart => exact ⟨0, .slice none 0 0, [], Nat.zero_le _, rfl, rfl, HXM.out, Up.nil _ _, gb_refl _ _, OwnAll.nil _ _⟩
    case round =>
      obtain ⟨k, v', ys, hk, rfl, hys, hxb, hup, hg, hoa⟩ := hrel
      obtain ⟨wa, hwa⟩ : ∃ wa, wa = wr := ⟨_, rfl⟩
      subst hwa
      have HOA := hid hoa
      clear hoa
      have HYS := hid hys
      have hyl : ys.length ≤ 4 := by have h := congrArg List.length hys; simp at h; omega
      have HU := hid hup
      have HXB := hid hxb
      have HG := hid hg
      have hsg := hg.size
      have HBw := hid (show Below w.heap.size w wa from HBM.out.trans (gb_low hg (by omega) (by omega)))
      have g0 : wa.cell? ⟨xb, 0, none⟩ = some v := (blk_cell hxb 0).trans rfl
      have g1 : wa.cell? ⟨xb, 1, none⟩ = some v' := (blk_cell hxb 1).trans rfl
      have gf := blk_frozen hxb
      have d1 : wa.cell? ⟨w.heap.size, 1, none⟩ = some (.slice qa c.pols.length qc) := hg.cell c1 (fun e => by have := Option.some.inj e; simp only at this; omega)
      have HRA := hid ((hg.block (w.heap.size + 1) (by omega) (fun e => by cases e; omega)).trans HRM.out)
      have HVB := hid (show ∀ g, v'.ownBlock = some g → M.heap.size ≤ g from fun g h => (hup.lt g h).1)
      have HVL := hid (show ∀ g, v'.ownBlock = some g → g < wa.heap.size from fun g h => (hup.lt g h).2)
      clear hys hxb hup hg
      by_cases hlt : k < (c.pols.take 4).length
      · obtain ⟨h1, h2, h3⟩ := take4_lt hlt
        obtain ⟨x, hxk⟩ : ∃ x, c.pols[k]? = some x := ⟨c.pols[k], by simp [h1]⟩
        have HXK := hid (h3.trans hxk)
        have z1 : (k : Int) < (c.pols.length : Int) := by omega
        have z2 : (k : Int) < 4 := by omega
        obtain ⟨b, off, rfl, hb, e0, e1, e2, e3, ⟨oa, oc, e4, hro⟩, ia, ic, e5, hri⟩ := HQ.out.2 k x hxk
        have HIX := hid (HI2.out x (List.mem_of_getElem? hxk))
        have HRO := hid (rdRules.ext HBw.out HBw.out.size hro)
        have HRI := hid (rdRules.ext HBw.out HBw.out.size hri)
        have f0 := cell_to e0 HBw.out
        have f1 := cell_to e1 HBw.out
        have f2 := cell_to e2 HBw.out
        have f3 := cell_to e3 HBw.out
        have f4 := cell_to e4 HBw.out
        have f5 := cell_to e5 HBw.out
        clear hxk hro hri e0 e1 e2 e3 e4 e5 h3
        obtain ⟨y, hy⟩ : ∃ y, y = mkPol x := ⟨_, rfl⟩
        have hcall := mkPol_own x oa ia oc ic wa HRO.out HRI.out HIX.out
        rw [← hy] at hcall
        have HC := hid hcall
        have HY := hid hy
        clear hcall hy
        go_wp2_with (first
          | (go_at_call 33; go_must (refine HC.out.mono ?_); rintro e w2 ⟨⟨a2, c2, a2', c2', rfl, hr2, hr2', hn2⟩, hb2⟩; have HN2 := hid hn2; clear hn2; have HB2 := hid hb2; have HR2 := hid hr2; have HR2' := hid hr2'; have hs2 := hb2.size; have HX2 := hid ((hb2.block xb (by omega)).trans HXB.out); have y1 : w2.cell? ⟨xb, 1, none⟩ = some v' := (blk_cell HX2.out 1).trans rfl; have yf := blk_frozen HX2.out; have HU2 := hid (HU.out.grow NPol.mono hb2); clear hb2 hr2 hr2' f0 f1 f2 f3 f4 f5 g0 g1 gf d1)
          | (at_builtin; go_must (refine wpList_append_own_at _ rfl _ _ 26 rfl M.heap.size 59 iq0 _ 6 80 Tryz.underlying26 hiq iqz0 iqz1 iqz2 rfl (by decide) _ _ _ rfl ((HU2.out.1.alloc (.cells #[.int .i64 y.space, .int .i64 y.need, .int .i64 y.ban, .int .i64 y.ways, .slice a2 y.outs.length c2, .slice a2' y.ins.length c2'] 59)).alloc (.cells #[.int .i64 y.space, .int .i64 y.need, .int .i64 y.ban, .int .i64 y.ways, .slice a2 y.outs.length c2, .slice a2' y.ins.length c2'] 59)) ⟨w2.heap.size + 1, 0, none⟩ 1 1 (encPol ⟨y, .slice a2 y.outs.length c2, .slice a2' y.ins.length c2'⟩) rfl rfl (cell_new_list2 w2 _ (encPol ⟨y, .slice a2 y.outs.length c2, .slice a2' y.ins.length c2'⟩) _) (by intro u hu; simp only [encPol, List.mem_cons, List.not_mem_nil, or_false] at hu; rcases hu with rfl | rfl | rfl | rfl | rfl | rfl <;> rfl) (by unfold maxLen; omega) (by omega) (by simp only [World.size_alloc]; omega) ?_); intro v3 w8 hown8 hg8 hnil8 hat8; obtain ⟨a8, c8, rfl, _, _⟩ := own_slice hown8; have t8 : w8.heap[xb]? = some (.cells #[v, v'] 28 (0, 0)) := (hg8.block xb (by simp only [World.size_alloc]; omega) (fun e => by have := HVB.out _ e.symm; omega)).trans ((Below.heap_alloc _ _ _ (by simp only [World.size_alloc]; omega)).trans ((Below.heap_alloc _ _ _ (by omega)).trans HX2.out)); have y8 : w8.cell? ⟨xb, 1, none⟩ = some v' := (blk_cell t8 1).trans rfl; have yf8 := blk_frozen t8; have HT8 := hid t8; have HO8 := hid hown8; have HG8 := hid hg8; have HA8 := hid hat8; clear hown8 hg8 hnil8 hat8 t8))
        have hZ2 : Below w2.heap.size w2 ((w2.alloc (.cells #[.int .i64 y.space, .int .i64 y.need, .int .i64 y.ban, .int .i64 y.ways, .slice a2 y.outs.length c2, .slice a2' y.ins.length c2'] 59)).alloc (.cells #[.int .i64 y.space, .int .i64 y.need, .int .i64 y.ban, .int .i64 y.ways, .slice a2 y.outs.length c2, .slice a2' y.ins.length c2'] 59)) := (by repeat (first | exact Below.refl _ _ | assumption | apply Ext.alloc | apply Ext.drewN | apply Ext.drew | refine Ext.trans ?_ (by assumption)))
        have HZA := hid (show Below wa.heap.size wa ((w2.alloc (.cells #[.int .i64 y.space, .int .i64 y.need, .int .i64 y.ban, .int .i64 y.ways, .slice a2 y.outs.length c2, .slice a2' y.ins.length c2'] 59)).alloc (.cells #[.int .i64 y.space, .int .i64 y.need, .int .i64 y.ban, .int .i64 y.ways, .slice a2 y.outs.length c2, .slice a2' y.ins.length c2'] 59)) from HB2.out.trans (hZ2.mono HB2.out.size))
        refine ⟨⟨k + 1, _, ys ++ [⟨y, .slice a2 y.outs.length c2, .slice a2' y.ins.length c2'⟩], by omega, by go_num, by rw [List.map_append, HYS.out, HY.out]; exact snoc_take mkPol HXK.out, (set_blk HT8.out 1 _).trans rfl, ?_, gb_set (gb_row (gb_below HG.out HZA.out) HG8.out HVB.out) 1 _, ?_⟩, by simp [intOf]; omega⟩
        rotate_left
        · exact OwnAll.app HOA.out HB2.out HN2.out hZ2 HG8.out (fun g hg => ⟨HVB.out g hg, HVL.out g hg⟩) HA8.out hsg (fun b' hb' => Below.heap_setCell _ _ _ _ (by show b' ≠ xb; omega)) (by rw [World.size_setCell])
        have g1 : UpPols M.heap.size ((w2.alloc (.cells #[.int .i64 y.space, .int .i64 y.need, .int .i64 y.ban, .int .i64 y.ways, .slice a2 y.outs.length c2, .slice a2' y.ins.length c2'] 59)).alloc (.cells #[.int .i64 y.space, .int .i64 y.need, .int .i64 y.ban, .int .i64 y.ways, .slice a2 y.outs.length c2, .slice a2' y.ins.length c2'] 59)) v' ys := HU.out.grow NPol.mono HZA.out
        have g2 : NPol ((w2.alloc (.cells #[.int .i64 y.space, .int .i64 y.need, .int .i64 y.ban, .int .i64 y.ways, .slice a2 y.outs.length c2, .slice a2' y.ins.length c2'] 59)).alloc (.cells #[.int .i64 y.space, .int .i64 y.need, .int .i64 y.ban, .int .i64 y.ways, .slice a2 y.outs.length c2, .slice a2' y.ins.length c2'] 59)).heap.size (hide ((w2.alloc (.cells #[.int .i64 y.space, .int .i64 y.need, .int .i64 y.ban, .int .i64 y.ways, .slice a2 y.outs.length c2, .slice a2' y.ins.length c2'] 59)).alloc (.cells #[.int .i64 y.space, .int .i64 y.need, .int .i64 y.ban, .int .i64 y.ways, .slice a2 y.outs.length c2, .slice a2' y.ins.length c2'] 59)) (low wa.heap.size)) ⟨y, .slice a2 y.outs.length c2, .slice a2' y.ins.length c2'⟩ := ⟨⟨a2, c2, rfl, rdRules.sub (Sub.grow hZ2) hZ2.size HR2.out⟩, a2', c2', rfl, rdRules.sub (Sub.grow hZ2) hZ2.size HR2'.out⟩
        have g3 := Up.app NPol.mono g1 hsg (fun g hg => HVL.out g hg) g2 HO8.out HG8.out HA8.out
        exact g3.set NPol.mono ⟨xb, 1, none⟩ _ (by show xb < M.heap.size; omega)
      · have hend := take4_ge hlt
        have htk : (c.pols.take 4).take k = c.pols.take 4 := List.take_of_length_le (by omega)
        have HYE := hid (show ys.map (·.d) = (c.pols.take 4).map mkPol by rw [HYS.out, htk])
        obtain ⟨va', vc', hv', _⟩ := HU.out.slice
        have hv := HV.out
        subst hv hv'
        have r0 := blk_cell HRA.out
        have rf := blk_frozen HRA.out
        have HUE := hid (HUP.out.gb NNo.mono HG.out (by omega))
        clear htk
        by_cases he1 : k < c.pols.length
        · have z1 : (k : Int) < (c.pols.length : Int) := by omega
          have z2 : ¬ (k : Int) < 4 := by omega
          go_wp2
          refine bodyPost_ret (v := .agg #[.slice va (mkPods c.pods).length vc, .slice va' ys.length vc']) (by simp [results, Tryz.results13, go_sem, r0]) rfl ⟨⟨_, _, rfl, M.heap.size, ys, by omega, ?_, HVM.out, ?_, HYE.out, ?_⟩, ?_⟩
          · exact ((HUE.out.set NNo.mono _ _ (by show w.heap.size + 1 < W.heap.size; omega)).set NNo.mono _ _ (by show w.heap.size + 1 < W.heap.size; omega)).lower NNo.mono (by omega)
          · exact (HU.out.set NPol.mono _ _ (by show w.heap.size + 1 < M.heap.size; omega)).set NPol.mono _ _ (by show w.heap.size + 1 < M.heap.size; omega)
          · exact HOA.out.to (fun b' hb' _ _ => (Below.heap_setCell _ _ _ _ (by show b' ≠ w.heap.size + 1; omega)).trans (Below.heap_setCell _ _ _ _ (by show b' ≠ w.heap.size + 1; omega))) (by simp)
          · exact (HBw.out.setCell (by simp) _).setCell (by simp) _
        · have z1 : ¬ (k : Int) < (c.pols.length : Int) := by omega
          go_wp2
          refine bodyPost_ret (v := .agg #[.slice va (mkPods c.pods).length vc, .slice va' ys.length vc']) (by simp [results, Tryz.results13, go_sem, r0]) rfl ⟨⟨_, _, rfl, M.heap.size, ys, by omega, ?_, HVM.out, ?_, HYE.out, ?_⟩, ?_⟩
          · exact ((HUE.out.set NNo.mono _ _ (by show w.heap.size + 1 < W.heap.size; omega)).set NNo.mono _ _ (by show w.heap.size + 1 < W.heap.size; omega)).lower NNo.mono (by omega)
          · exact (HU.out.set NPol.mono _ _ (by show w.heap.size + 1 < M.heap.size; omega)).set NPol.mono _ _ (by show w.heap.size + 1 < M.heap.size; omega)
          · exact HOA.out.to (fun b' hb' _ _ => (Below.heap_setCell _ _ _ _ (by show b' ≠ w.heap.size + 1; omega)).trans (Below.heap_setCell _ _ _ _ (by show b' ≠ w.heap.size + 1; omega))) (by simp)
          · exact (HBw.out.setCell (by simp) _).setCell (by simp) _
end Go.Proofs.YtmkjlhplgcifiaaGreat
