/-
  Copies of rules and policies.
-/
import Derived.Test.YtmkjlhplgcifiaaGreatH24
import Derived.Test.YtmkjlhplgcifiaaGreatH01
import Derived.Deep.RegionHeld3
import Derived.OrdersHeld
namespace Go.Proofs.YtmkjlhplgcifiaaGreat
open Go.ChangeShapes Go.WideShapes Go.ChangeAt Go.RowKit
set_option linter.unusedVariables false
set_option linter.unusedSimpArgs false
attribute [local simp] World.cell?_grow World.cell?_alloc_there
attribute [local go_sem] World.cell?_grow World.cell?_alloc_there eqg_blk std_blk eqg_pod std_pod eqg_sel std_sel eqg_prt std_prt
attribute [local go_sem ↓] eql_blk eql_sel neq_sel eql_prt eql_pod met_in1 met_in2 met_re1 met_re2 met_has1 met_has2 met_bl1 met_bl2
theorem keep_far {w : World} {p : Addr} {b o : Nat} {u v : Value} (h : w.cell? ⟨b, o, none⟩ = some u) (hne : p.block ≠ b) : (w.setCell p v).cell? ⟨b, o, none⟩ = some u := (World.cell?_setCell_far w p ⟨b, o, none⟩ v hne).trans h
set_option maxRecDepth 100000 in
set_option maxHeartbeats 1000000 in
theorem copyRule_any (r : DRule) (pa qa : Option Addr) (pc qc : Nat) (w : World) (hp : rdPeers w.heap.size w pa r.peers) (hq : rdPorts w.heap.size w qa r.ports) :
    Calls Tryz.prog 99 #[.agg #[.slice pa r.peers.length pc, .slice qa r.ports.length qc]] w
      fun e w' => (∃ a c a' c', e = .returned (.agg #[.slice a r.peers.length c, .slice a' r.ports.length c']) ∧ rdPeers w'.heap.size (hide w' (low w.heap.size)) a r.peers ∧ rdPorts w'.heap.size (hide w' (low w.heap.size)) a' r.ports) ∧ Below w.heap.size w w' := by
  have HP := hid hp
  have HQ := hid hq
  clear hp hq
  go_enter Tryz.func99, Tryz.ntmps99
  go_wp2
  have q0 : ((w.alloc (.cells #[.slice pa r.peers.length pc, .slice qa r.ports.length qc] 64)).alloc (.cells #[.slice none 0 0, .slice none 0 0] 64)).heap[w.heap.size]? = some (.cells #[.slice pa r.peers.length pc, .slice qa r.ports.length qc] 64 (0, 0)) := (Below.heap_alloc _ _ _ (by simp)).trans (new_heap _ _)
  have q1 : ((w.alloc (.cells #[.slice pa r.peers.length pc, .slice qa r.ports.length qc] 64)).alloc (.cells #[.slice none 0 0, .slice none 0 0] 64)).heap[w.heap.size + 1]? = some (.cells #[.slice none 0 0, .slice none 0 0] 64 (0, 0)) := by
    have := new_heap (w.alloc (.cells #[.slice pa r.peers.length pc, .slice qa r.ports.length qc] 64)) (.cells #[.slice none 0 0, .slice none 0 0] 64)
    simpa only [World.size_alloc] using this
  have hB : Below w.heap.size w ((w.alloc (.cells #[.slice pa r.peers.length pc, .slice qa r.ports.length qc] 64)).alloc (.cells #[.slice none 0 0, .slice none 0 0] 64)) := bel
  have hS : w.heap.size + 2 ≤ ((w.alloc (.cells #[.slice pa r.peers.length pc, .slice qa r.ports.length qc] 64)).alloc (.cells #[.slice none 0 0, .slice none 0 0] 64)).heap.size := by simp only [World.size_alloc]; omega
  generalize (w.alloc (.cells #[.slice pa r.peers.length pc, .slice qa r.ports.length qc] 64)).alloc (.cells #[.slice none 0 0, .slice none 0 0] 64) = W at q0 q1 hB hS ⊢
  have x0 : W.drew.cell? ⟨w.heap.size, 0, none⟩ = some (.slice pa r.peers.length pc) := (blk_cell q0 0).trans rfl
  have x1 : W.drew.cell? ⟨w.heap.size, 1, none⟩ = some (.slice qa r.ports.length qc) := (blk_cell q0 1).trans rfl
  have y0 : W.cell? ⟨w.heap.size, 0, none⟩ = some (.slice pa r.peers.length pc) := x0
  have y1 : W.cell? ⟨w.heap.size, 1, none⟩ = some (.slice qa r.ports.length qc) := x1
  have HB := hid hB
  have Q0 := hid q0
  have Q1 := hid q1
  clear hB q0 q1
  go_region_held3 (fun w' => w'.cell? ⟨w.heap.size, 0, none⟩ = some (.slice pa r.peers.length pc) ∧ w'.cell? ⟨w.heap.size, 1, none⟩ = some (.slice qa r.ports.length qc)) (first | (refine ⟨keep_far (by assumption) ?_, keep_far (by assumption) ?_⟩ <;> (simp only []; omega)) | go_keep) (first
    | (go_at_call 130; refine (mapPeer_any r.peers pa pc W.drew (rdPeers.ext HB.out.drew HB.out.size HP.out)).mono ?_; rintro e w3 ⟨⟨a3, c3, rfl, _, hr3⟩, hb3⟩; have z0 := cell_to x0 hb3; have z1 := cell_to x1 hb3; have HB3 := hid hb3; have HR3 := hid hr3; clear hb3 hr3)
    | (go_at_call 132; refine (clonePorts_any r.ports qa qc w3 (rdPorts.ext (HB.out.drew.trans (HB3.out.mono HB.out.size)) (Nat.le_trans HB.out.size HB3.out.size) HQ.out)).mono ?_; rintro e w4 ⟨⟨a4, c4, rfl, _, hr4⟩, hb4⟩; have v0 := cell_to z0 hb4; have v1 := cell_to z1 hb4; have HB4 := hid hb4; have HR4 := hid hr4; have hs3 := HB3.out.size; have n1 : w4.heap[w.heap.size + 1]? = some (.cells #[.slice none 0 0, .slice none 0 0] 64 (0, 0)) := (hb4.block _ (by have : W.heap.size ≤ w3.heap.size := hs3; omega)).trans ((HB3.out.block _ (by show _ < W.heap.size; omega)).trans Q1.out); have l0 : w4.cell? ⟨w.heap.size + 1, 0, none⟩ = some (.slice none 0 0) := (blk_cell n1 0).trans rfl; have l1 : w4.cell? ⟨w.heap.size + 1, 1, none⟩ = some (.slice none 0 0) := (blk_cell n1 1).trans rfl; have lf := blk_frozen n1; clear hb4 hr4 n1))
  go_wp2
  have hs4 := HB4.out.size
  refine bodyPost_ret (v := .agg #[.slice a3 r.peers.length c3, .slice a4 r.ports.length c4]) (by simp [results, Tryz.results99, go_sem, l0, l1]) rfl ⟨⟨a3, c3, a4, c4, rfl, ?_, ?_⟩, ?_⟩
  · refine rdPeers.sub (Sub.trans ?_ (Sub.low (m := W.heap.size) (by omega))) (by simpa using hs4) HR3.out
    iterate 2 refine Sub.trans ?_ (Sub.set _ _ (by simp only [low, decide_eq_true_eq]; omega))
    exact Sub.grow HB4.out
  · refine rdPorts.sub (Sub.trans ?_ (Sub.low (m := w3.heap.size) (by have : W.heap.size ≤ w3.heap.size := hs3; omega))) (by simp) HR4.out
    iterate 2 refine Sub.trans ?_ (Sub.set _ _ (by simp only [low, decide_eq_true_eq]; have : W.heap.size ≤ w3.heap.size := hs3; omega))
    exact Sub.refl _
  · iterate 2 refine Below.setCell ?_ (by simp) _
    exact HB.out.drew.trans ((HB3.out.mono HB.out.size).trans (HB4.out.mono (Nat.le_trans HB.out.size hs3)))
set_option maxRecDepth 100000 in
theorem mapRule_any (l : List DRule) (a : Option Addr) (cap : Nat) (w : World) (hl : rdRules w.heap.size w a l) :
    Calls Tryz.prog 98 #[.slice a l.length cap, .func (.func 99) #[] #[]] w
      fun e w' => (∃ a c, e = .returned (.slice a l.length c) ∧ l.length ≤ c ∧ rdRules w'.heap.size (hide w' (low w.heap.size)) a l) ∧ Below w.heap.size w w' := by
  have HL := hid hl
  have hlen := hl.1
  clear hl
  obtain ⟨i0, hi, iz0, iz1, iz2⟩ := info_parts info_rule
  go_enter Tryz.func98, Tryz.ntmps98
  go_wp2
  go_loopw [5, 10] (fun v i wr => ∃ (k : Nat) (ys : List XRule), k ≤ l.length ∧ i = .int .i64 k ∧ ys.map (·.d) = l.take k ∧ UpRules w.heap.size wr v ys ∧ Below w.heap.size w wr) (fun _ i _ => l.length - (intOf i).toNat)
  case atStart => exact ⟨0, [], Nat.zero_le _, rfl, rfl, Up.nil _ _, Below.refl _ _⟩
  case round =>
    obtain ⟨k, ys, hk, rfl, hys, hup, hbw⟩ := hrel
    have HYS := hid hys
    have HU := hid hup
    have HBW := hid hbw
    have hyl := cpy_len hys
    have hws := hbw.size
    clear hys hup
    by_cases hlt : k < l.length
    · obtain ⟨x, hxk⟩ : ∃ x, l[k]? = some x := ⟨l[k], by simp [hlt]⟩
      have HX := hid hxk
      obtain ⟨b, off, rfl, hb, ⟨pa, pc, c0, hrp⟩, qa, qc, c1, hrq⟩ := HL.out.2 k x hxk
      have HRP := hid hrp
      have HRQ := hid hrq
      obtain ⟨hc, hf⟩ := bcell hbw
      clear hxk hrp hrq
      go_wp2_with (first
        | (go_at_call 99; go_must (refine (copyRule_any x pa qa pc qc _ (rdPeers.to HRP.out bel) (rdPorts.to HRQ.out bel)).mono ?_); rintro e w2 ⟨⟨a2, c2, a2', c2', rfl, hr2, hr2'⟩, hb2⟩; have HB2 := hid (show Below wr.heap.size wr w2 from bel); have HR2 := hid (show rdPeers w2.heap.size (hide w2 (low (wr.heap.size + 1))) a2 x.peers by simpa only [World.size_alloc] using hr2); have HR2' := hid (show rdPorts w2.heap.size (hide w2 (low (wr.heap.size + 1))) a2' x.ports by simpa only [World.size_alloc] using hr2'); have HU2 := hid (HU.out.grow NRule.mono HB2.out); have hs2 := HB2.out.size; clear hr2 hr2' hb2)
        | (at_builtin; refine wpList_append_own_at _ rfl _ _ 57 rfl w.heap.size 64 i0 _ 2 48 Tryz.underlying57 hi iz0 iz1 iz2 rfl (by decide) _ _ _ rfl (HU2.out.1.alloc (.cells (encXRule ⟨x, a2, c2, a2', c2'⟩).toArray 64)) ⟨w2.heap.size, 0, none⟩ 1 1 (encXRule ⟨x, a2, c2, a2', c2'⟩) rfl rfl (cell_new_list w2 (encXRule ⟨x, a2, c2, a2', c2'⟩) _) (by intro u hu; simp only [encXRule, List.mem_cons, List.not_mem_nil, or_false] at hu; rcases hu with rfl | rfl <;> rfl) (by unfold maxLen; omega) (by omega) (by rw [World.size_alloc]; omega) ?_; intro v' w3 hown3 hg3 hnil3 hat3))
      have hB3 : Below w2.heap.size w2 (w2.alloc (.cells (encXRule ⟨x, a2, c2, a2', c2'⟩).toArray 64)) := (Below.refl _ w2).alloc (Nat.le_refl _) _
      refine ⟨⟨k + 1, ys ++ [⟨x, a2, c2, a2', c2'⟩], by omega, by go_num, cpy_take HYS.out HX.out, ?_, ?_⟩, by simp [intOf]; omega⟩
      · exact Up.app NRule.mono (m := wr.heap.size + 1) (HU2.out.grow NRule.mono hB3) (by omega) (fun g hg => by have := (HU.out.lt g hg).2; omega) ⟨rdPeers.sub (Sub.grow hB3) hB3.size HR2.out, rdPorts.sub (Sub.grow hB3) hB3.size HR2'.out⟩ hown3 hg3 hat3
      · exact own_below (((HBW.out.trans (HB2.out.mono hws))).trans (hB3.mono (by omega))) (by rw [World.size_alloc]; omega) (HU2.out.1.alloc _) hg3
    · go_wp2
      have he : l.take k = l := List.take_of_length_le (by omega)
      obtain ⟨a2, c2, rfl, hc2, hr2⟩ := upRules_done' HU.out (by omega)
      rw [HYS.out, he] at hc2 hr2 ⊢
      go_ret
      exact ⟨⟨a2, c2, rfl, hc2, hr2⟩, hbw⟩
end Go.Proofs.YtmkjlhplgcifiaaGreat
namespace Go
section
variable {P : Program} {ops : Array Oper} {md : Region.Mode} {S : World → Prop}
def endBy (Q1 : Act → World → Prop) (Q' : Exit → Act → World → Prop) : Exit → Act → World → Prop
  | .normal, a, w => Q1 a w
  | e, a, w => Q' e a w
theorem wpOp_endBy {Q1 : Act → World → Prop} {Q' : Exit → Act → World → Prop} {i : Nat} {K : Act → World → Prop} {a : Act} {w : World} (h : wpOp P ops (endBy Q1 Q') i K a w) : wpOp P ops Q' i K a w := by
  unfold wpOp Oper.wp at *
  cases ho : ops[i]? with
  | none => rw [ho] at h; exact h
  | some o =>
    rw [ho] at h
    simp only at h ⊢
    split
    · rename_i hw
      rw [if_pos hw] at h
      rcases h with h | h
      · refine .inl ?_
        generalize (execOp a.eval o).run P w = r at *
        cases r with
        | ok n w' => cases n <;> exact h
        | halt x w' => cases x <;> exact h
      · exact .inr h
    · rename_i hw
      rw [if_neg hw] at h
      exact h
theorem wpAny_of_prefix {Q1 : Act → World → Prop} {Q' : Exit → Act → World → Prop} {n m : Nat} (hT : tailB md ops n = true) (Lt : Array Bool) (hLt : TailRel n ops.size (Array.replicate n true) Lt)
    (htail : ∀ a w, Q1 a w → wpAny P md ops Q' m Lt a w) :
    ∀ (fuel : Nat) (l1 L : Array Bool) (a : Act) (w : World), TailRel n ops.size l1 L → (∀ k o, k < n → ops[k]? = some o → l1[k]? = some true → ∀ e ∈ o.after, Region.binds md e = true → l1[e.on]? = some true) →
      wpAny P md (ops.extract 0 n) (endBy Q1 Q') fuel l1 a w → wpAny P md ops Q' (fuel + m) L a w := by
  simp only [tailB, Bool.and_eq_true, List.all_eq_true, List.mem_range, List.any_eq_true, decide_eq_true_eq, Bool.or_eq_true] at hT
  obtain ⟨⟨⟨h1, h2⟩, h3⟩, h4⟩ := hT
  have hx : ∀ k, k < n → (ops.extract 0 n)[k]? = ops[k]? := fun k hk => by
    rw [Array.getElem?_extract]; simp; omega
  have hback : ∀ k o, k < n → ops[k]? = some o → o.guard = none ∧ ∀ e ∈ o.after, Region.binds md e = true → e.on < k := fun k o hk ho => by
    have := h1 k hk
    simp only [ho, Option.map_some, Option.getD_some, Bool.and_eq_true, Option.isNone_iff_eq_none, Array.all_eq_true_iff_forall_mem, Bool.or_eq_true, decide_eq_true_eq] at this
    exact ⟨this.1, fun e he hb => (this.2 e he).resolve_left (by simp [hb])⟩
  -- none is ready: all have come up
  have hdone : ∀ l1 : Array Bool, l1.size = n → Region.ready md (ops.extract 0 n) l1 = [] → l1 = Array.replicate n true := fun l1 hs hr => by
    have hall : ∀ k, k < n → l1[k]? = some true := by
      intro k
      induction k using Nat.strongRecOn with
      | ind k ih =>
        intro hk
        cases hb : l1[k]? with
        | none => rw [Array.getElem?_eq_none_iff] at hb; omega
        | some b =>
          cases b with
          | true => rfl
          | false =>
            obtain ⟨o, ho⟩ : ∃ o, ops[k]? = some o := ⟨ops[k], by simp⟩
            have : k ∈ Region.ready md (ops.extract 0 n) l1 := mem_ready.2 ⟨getD_of_some hb _, o, by rw [hx k hk]; exact ho, fun e he hbd => getD_of_some (ih e.on ((hback k o hk ho).2 e he hbd) (by have := (hback k o hk ho).2 e he hbd; omega)) _⟩
            rw [hr] at this; cases this
    apply Array.ext_getElem?
    intro k
    rcases Nat.lt_or_ge k n with h | h
    · rw [hall k h]; simp [h]
    · rw [Array.getElem?_eq_none (by omega), Array.getElem?_eq_none (by simp; omega)]
  have hLeq : ∀ l1 L : Array Bool, TailRel n ops.size l1 L → l1 = Array.replicate n true → L = Lt := fun l1 L hR he => by
    subst he
    apply Array.ext_getElem?
    intro k
    rcases Nat.lt_or_ge k n with h | h
    · rw [hR.lo k h, hLt.lo k h]
    · rcases Nat.lt_or_ge k ops.size with h' | h'
      · rw [hR.hi k h h', hLt.hi k h h']
      · rw [Array.getElem?_eq_none (by rw [hR.s2]; exact h'), Array.getElem?_eq_none (by rw [hLt.s2]; exact h')]
  -- a later one that is ready: all have come up
  have hlate : ∀ (l1 L : Array Bool), TailRel n ops.size l1 L → (∀ k o, k < n → ops[k]? = some o → l1[k]? = some true → ∀ e ∈ o.after, Region.binds md e = true → l1[e.on]? = some true) →
      ∀ j ∈ Region.ready md ops L, n ≤ j → l1 = Array.replicate n true := fun l1 L hR hcl j hj hn => by
    obtain ⟨hj0, oj, hoj, hja⟩ := mem_ready.1 hj
    have hjs : j < ops.size := (Array.getElem?_eq_some_iff.1 hoj).1
    have hjn : j = n := by
      rcases h3 j hjs with h | h
      · omega
      · rcases Nat.lt_or_ge n j with h' | h'
        · obtain ⟨o, ho, e, he, hb, hon⟩ := onTo_spec h
          rw [hoj] at ho; cases ho
          have h5 := some_of_getD (hja e he hb)
          rw [hon, hR.hi (j - 1) (by omega) (by omega)] at h5
          cases h5
        · omega
    subst hjn
    have hall : ∀ d k, k + d = j → d ≠ 0 → l1[k]? = some true := by
      intro d
      induction d using Nat.strongRecOn with
      | ind d ih =>
        intro k hkd hd0
        obtain ⟨i, hi, hki, hon⟩ := h2 k (by omega)
        obtain ⟨o, ho, e, he, hb, hk⟩ := onTo_spec hon
        rcases Nat.lt_or_ge i j with hlt | hge
        · have := hcl i o hlt ho (ih (j - i) (by omega) i (by omega) (by omega)) e he hb
          rwa [hk] at this
        · have : i = j := by omega
          subst this
          rw [hoj] at ho; cases ho
          have h5 := some_of_getD (hja e he hb)
          rw [hk, hR.lo k (by omega)] at h5
          exact h5
    apply Array.ext_getElem?
    intro k
    rcases Nat.lt_or_ge k j with h | h
    · rw [hall (j - k) k (by omega) (by omega)]; simp [h]
    · rw [Array.getElem?_eq_none (by rw [hR.s1]; exact h), Array.getElem?_eq_none (by simp; omega)]
  intro fuel
  induction fuel with
  | zero =>
    intro l1 L a w hR hcl h
    rw [Nat.zero_add, hLeq l1 L hR (hdone l1 hR.s1 h.1)]
    exact htail a w h.2
  | succ fuel ih =>
    intro l1 L a w hR hcl h
    by_cases he : l1 = Array.replicate n true
    · have hr : Region.ready md (ops.extract 0 n) l1 = [] := by
        apply List.eq_nil_iff_forall_not_mem.2
        intro k hk
        obtain ⟨h0, o, ho, _⟩ := mem_ready.1 hk
        have hkn : k < n := by have := (Array.getElem?_eq_some_iff.1 ho).1; simp at this; omega
        have := false_of_getD h0
        rw [he] at this
        simp [hkn] at this
      rw [hLeq l1 L hR he]
      exact wpAny_mores _ _ _ _ _ (htail a w (h.1 hr))
    · rw [Nat.succ_add]
      refine ⟨fun hr => ?_, fun i hi => ?_⟩
      · exfalso
        refine he (hdone l1 hR.s1 ?_)
        apply List.eq_nil_iff_forall_not_mem.2
        intro k hk
        obtain ⟨h0, o, ho, hal⟩ := mem_ready.1 hk
        have hkn : k < n := by have := (Array.getElem?_eq_some_iff.1 ho).1; simp at this; omega
        rw [hx k hkn] at ho
        have : k ∈ Region.ready md ops L := mem_ready.2 ⟨getD_of_some (by rw [hR.lo k hkn]; exact false_of_getD h0) _, o, ho, fun e he hb => getD_of_some (by rw [hR.lo e.on (by have := (hback k o hkn ho).2 e he hb; omega)]; exact some_of_getD (hal e he hb)) _⟩
        rw [hr] at this; cases this
      · have hin : i < n := by
          rcases Nat.lt_or_ge i n with h' | h'
          · exact h'
          · exact absurd (hlate l1 L hR hcl i hi h') he
        obtain ⟨h0, o, ho, hal⟩ := mem_ready.1 hi
        have hi1 : i ∈ Region.ready md (ops.extract 0 n) l1 := mem_ready.2 ⟨getD_of_some (by rw [← hR.lo i hin]; exact false_of_getD h0) _, o, by rw [hx i hin]; exact ho, fun e he hb => getD_of_some (by rw [← hR.lo e.on (by have := (hback i o hin ho).2 e he hb; omega)]; exact some_of_getD (hal e he hb)) _⟩
        have hR' : TailRel n ops.size (l1.setIfInBounds i true) (L.setIfInBounds i true) := by
          refine ⟨by simp [hR.s1], by simp [hR.s2], fun k hk => ?_, fun k hk hk' => ?_⟩
          · rw [Array.getElem?_setIfInBounds, Array.getElem?_setIfInBounds, hR.lo k hk, hR.s1, hR.s2]
            by_cases hik : i = k
            · subst hik; simp [hin, Nat.lt_of_lt_of_le hin h4]
            · simp [hik]
          · rw [Array.getElem?_setIfInBounds_ne (by omega)]; exact hR.hi k hk hk'
        have hcl' : ∀ k o, k < n → ops[k]? = some o → (l1.setIfInBounds i true)[k]? = some true → ∀ e ∈ o.after, Region.binds md e = true → (l1.setIfInBounds i true)[e.on]? = some true := by
          intro k o' hk ho' hkl e he' hb
          have hor : l1[e.on]? = some true := by
            by_cases hik : i = k
            · subst hik
              rw [ho] at ho'; cases ho'
              have h5 := some_of_getD (hal e he' hb)
              rwa [hR.lo e.on (by have := (hback i o hin ho).2 e he' hb; omega)] at h5
            · rw [Array.getElem?_setIfInBounds_ne hik] at hkl
              exact hcl k o' hk ho' hkl e he' hb
          by_cases hie : i = e.on
          · subst hie; rw [Array.getElem?_setIfInBounds_self]; simp [hR.s1, hin]
          · rw [Array.getElem?_setIfInBounds_ne hie]; exact hor
        have hq := wpOp_endBy (wpOp_mono (fun a' w' h' => ih _ _ a' w' hR' hcl' h') (h.2 i hi1))
        unfold wpOp at hq ⊢
        rw [hx i hin] at hq
        simp only [ho] at hq ⊢
        have hg := (hback i o hin ho).1
        simpa [Region.wanted, hg] using hq
theorem wp_region_held_tail {id : Nat} {Q : Exit → Act → World → Prop} {a : Act} {w : World} {l : List Oper} (n : Nat) (hm : P.follows .mixedOrders = true)
    (hT : (tailB .any l.toArray n && seqB .any l.toArray (l.length - n) n ((Array.replicate n true) ++ (Array.replicate (l.length - n) false))) = true)
    (h : wpAnyH P .any (l.take n).toArray (endBy (fun a' w' => wpList P l.toArray Q (l.drop n) a' w') Q) S n (Array.replicate n false) a w.drew) : (Code.region id l.toArray true).wp P Q a w := by
  rw [Bool.and_eq_true] at hT
  obtain ⟨hT, hS⟩ := hT
  have hn : n ≤ l.length := by simp only [tailB, Bool.and_eq_true, decide_eq_true_eq] at hT; simpa using hT.2
  refine wp_region_any hm ?_
  have hx : l.toArray.extract 0 n = (l.take n).toArray := by simp
  have e := wpAny_of_prefix (P := P) (Q' := Q) (md := .any) (ops := l.toArray) (Q1 := fun a' w' => wpList P l.toArray Q (l.drop n) a' w') (n := n) (m := l.length - n) hT (Array.replicate n true ++ Array.replicate (l.length - n) false)
    ⟨by simp, by simp; omega, fun k hk => by rw [Array.getElem?_append_left (by simpa using hk)], fun k hk hk' => by
      rw [Array.getElem?_append_right (by simpa using hk), Array.getElem?_replicate, if_pos (by simp at hk' ⊢; omega)]⟩
    (fun a' w' hQ1 => by
      have := wpAny_seq (P := P) (Q := Q) (md := .any) (ops := l.toArray) (l.drop n) n (Array.replicate n true ++ Array.replicate (l.length - n) false) a' w' (fun j => by simp) (by rw [List.length_drop]; exact hS) hQ1
      rwa [List.length_drop] at this)
    n (Array.replicate n false) (Array.replicate l.toArray.size false) a { w with drawn := w.drawn + 1 }
    ⟨by simp, by simp, fun k hk => by rw [Array.getElem?_replicate, Array.getElem?_replicate, if_pos (by simp; omega), if_pos hk], fun k hk hk' => by rw [Array.getElem?_replicate, if_pos hk']⟩
    (fun k o hk _ hkl => by simp [hk] at hkl)
    (by rw [hx]; exact wpAny_of_held _ _ _ _ h)
  have hs : n + (l.length - n) = l.toArray.size := by simp; omega
  rwa [hs] at e
theorem wpAnyH_yields {Q : Exit → Act → World → Prop} {i : Nat} {oi : Oper} (v : Value) {fuel : Nat} {listed : Array Bool} {a : Act} {w : World} (hi : ops[i]? = some oi)
    (hs : Region.noSelect ops = true) (hf : Region.free md ops listed i = true) (hr : (Region.ready md ops listed).contains i = true) (hg : oi.guard = none)
    (hQ : ∀ c a w, Q (.panic c) (a.put oi.dst v) w → Q (.panic c) a w) (hy : ∀ w, S w → (execOp a.eval oi).run P w = .ok (.value v) w) (hS : S w)
    (h : wpAnyH P md ops Q S fuel (listed.setIfInBounds i true) (a.put oi.dst v) w) : wpAnyH P md ops Q S (fuel + 1) listed a w :=
  wpAnyH_take hi hs hf hr hQ (.inl ⟨by simp [Region.wanted, hg], hy⟩) hS h
theorem wpAnyH_one {Q : Exit → Act → World → Prop} {i : Nat} {o : Oper} {fuel : Nat} {listed : Array Bool} {a : Act} {w : World} (hi : ops[i]? = some o) (hr : Region.ready md ops listed = [i]) (hg : o.guard = none)
    (h : ∀ K : Act → World → Prop, (∀ a' w', S w' → wpAnyH P md ops Q S fuel (listed.setIfInBounds i true) a' w' → K a' w') → Oper.wp P o a w K Q) : wpAnyH P md ops Q S (fuel + 1) listed a w :=
  wpAnyH_all hr (by simp) fun j hj => by
    simp at hj
    subst hj
    unfold wpOp
    rw [hi]
    simp only
    rw [if_pos (by simp [Region.wanted, hg])]
    exact .inl (h _ fun a' w' h1 h2 => ⟨h1, h2⟩)
theorem htake_0 {o0 : Oper} {r : List Oper} {Q : Exit → Act → World → Prop} (v : Value) {fuel : Nat} {listed : Array Bool} {a : Act} {w : World} (hs : Region.noSelect (o0 :: r).toArray = true) (hf : Region.free md (o0 :: r).toArray listed 0 = true) (hr : (Region.ready md (o0 :: r).toArray listed).contains 0 = true) (hg : o0.guard = none) (hQ : ∀ c a w, Q (.panic c) (a.put o0.dst v) w → Q (.panic c) a w) (hy : ∀ w, S w → (execOp a.eval o0).run P w = .ok (.value v) w) (hS : S w) (h : wpAnyH P md (o0 :: r).toArray Q S fuel (listed.setIfInBounds 0 true) (a.put o0.dst v) w) : wpAnyH P md (o0 :: r).toArray Q S (fuel + 1) listed a w := wpAnyH_yields (i := 0) v rfl hs hf hr hg hQ hy hS h
theorem htake_1 {o0 o1 : Oper} {r : List Oper} {Q : Exit → Act → World → Prop} (v : Value) {fuel : Nat} {listed : Array Bool} {a : Act} {w : World} (hs : Region.noSelect (o0 :: o1 :: r).toArray = true) (hf : Region.free md (o0 :: o1 :: r).toArray listed 1 = true) (hr : (Region.ready md (o0 :: o1 :: r).toArray listed).contains 1 = true) (hg : o1.guard = none) (hQ : ∀ c a w, Q (.panic c) (a.put o1.dst v) w → Q (.panic c) a w) (hy : ∀ w, S w → (execOp a.eval o1).run P w = .ok (.value v) w) (hS : S w) (h : wpAnyH P md (o0 :: o1 :: r).toArray Q S fuel (listed.setIfInBounds 1 true) (a.put o1.dst v) w) : wpAnyH P md (o0 :: o1 :: r).toArray Q S (fuel + 1) listed a w := wpAnyH_yields (i := 1) v rfl hs hf hr hg hQ hy hS h
theorem htake_2 {o0 o1 o2 : Oper} {r : List Oper} {Q : Exit → Act → World → Prop} (v : Value) {fuel : Nat} {listed : Array Bool} {a : Act} {w : World} (hs : Region.noSelect (o0 :: o1 :: o2 :: r).toArray = true) (hf : Region.free md (o0 :: o1 :: o2 :: r).toArray listed 2 = true) (hr : (Region.ready md (o0 :: o1 :: o2 :: r).toArray listed).contains 2 = true) (hg : o2.guard = none) (hQ : ∀ c a w, Q (.panic c) (a.put o2.dst v) w → Q (.panic c) a w) (hy : ∀ w, S w → (execOp a.eval o2).run P w = .ok (.value v) w) (hS : S w) (h : wpAnyH P md (o0 :: o1 :: o2 :: r).toArray Q S fuel (listed.setIfInBounds 2 true) (a.put o2.dst v) w) : wpAnyH P md (o0 :: o1 :: o2 :: r).toArray Q S (fuel + 1) listed a w := wpAnyH_yields (i := 2) v rfl hs hf hr hg hQ hy hS h
theorem hone_2 {o0 o1 o2 : Oper} {r : List Oper} {Q : Exit → Act → World → Prop} {fuel : Nat} {listed : Array Bool} {a : Act} {w : World} (hr : Region.ready md (o0 :: o1 :: o2 :: r).toArray listed = [2]) (hg : o2.guard = none) (h : ∀ K : Act → World → Prop, (∀ a' w', S w' → wpAnyH P md (o0 :: o1 :: o2 :: r).toArray Q S fuel (listed.setIfInBounds 2 true) a' w' → K a' w') → Oper.wp P o2 a w K Q) : wpAnyH P md (o0 :: o1 :: o2 :: r).toArray Q S (fuel + 1) listed a w := wpAnyH_one (i := 2) rfl hr hg h
theorem htake_3 {o0 o1 o2 o3 : Oper} {r : List Oper} {Q : Exit → Act → World → Prop} (v : Value) {fuel : Nat} {listed : Array Bool} {a : Act} {w : World} (hs : Region.noSelect (o0 :: o1 :: o2 :: o3 :: r).toArray = true) (hf : Region.free md (o0 :: o1 :: o2 :: o3 :: r).toArray listed 3 = true) (hr : (Region.ready md (o0 :: o1 :: o2 :: o3 :: r).toArray listed).contains 3 = true) (hg : o3.guard = none) (hQ : ∀ c a w, Q (.panic c) (a.put o3.dst v) w → Q (.panic c) a w) (hy : ∀ w, S w → (execOp a.eval o3).run P w = .ok (.value v) w) (hS : S w) (h : wpAnyH P md (o0 :: o1 :: o2 :: o3 :: r).toArray Q S fuel (listed.setIfInBounds 3 true) (a.put o3.dst v) w) : wpAnyH P md (o0 :: o1 :: o2 :: o3 :: r).toArray Q S (fuel + 1) listed a w := wpAnyH_yields (i := 3) v rfl hs hf hr hg hQ hy hS h
theorem htake_4 {o0 o1 o2 o3 o4 : Oper} {r : List Oper} {Q : Exit → Act → World → Prop} (v : Value) {fuel : Nat} {listed : Array Bool} {a : Act} {w : World} (hs : Region.noSelect (o0 :: o1 :: o2 :: o3 :: o4 :: r).toArray = true) (hf : Region.free md (o0 :: o1 :: o2 :: o3 :: o4 :: r).toArray listed 4 = true) (hr : (Region.ready md (o0 :: o1 :: o2 :: o3 :: o4 :: r).toArray listed).contains 4 = true) (hg : o4.guard = none) (hQ : ∀ c a w, Q (.panic c) (a.put o4.dst v) w → Q (.panic c) a w) (hy : ∀ w, S w → (execOp a.eval o4).run P w = .ok (.value v) w) (hS : S w) (h : wpAnyH P md (o0 :: o1 :: o2 :: o3 :: o4 :: r).toArray Q S fuel (listed.setIfInBounds 4 true) (a.put o4.dst v) w) : wpAnyH P md (o0 :: o1 :: o2 :: o3 :: o4 :: r).toArray Q S (fuel + 1) listed a w := wpAnyH_yields (i := 4) v rfl hs hf hr hg hQ hy hS h
theorem htake_5 {o0 o1 o2 o3 o4 o5 : Oper} {r : List Oper} {Q : Exit → Act → World → Prop} (v : Value) {fuel : Nat} {listed : Array Bool} {a : Act} {w : World} (hs : Region.noSelect (o0 :: o1 :: o2 :: o3 :: o4 :: o5 :: r).toArray = true) (hf : Region.free md (o0 :: o1 :: o2 :: o3 :: o4 :: o5 :: r).toArray listed 5 = true) (hr : (Region.ready md (o0 :: o1 :: o2 :: o3 :: o4 :: o5 :: r).toArray listed).contains 5 = true) (hg : o5.guard = none) (hQ : ∀ c a w, Q (.panic c) (a.put o5.dst v) w → Q (.panic c) a w) (hy : ∀ w, S w → (execOp a.eval o5).run P w = .ok (.value v) w) (hS : S w) (h : wpAnyH P md (o0 :: o1 :: o2 :: o3 :: o4 :: o5 :: r).toArray Q S fuel (listed.setIfInBounds 5 true) (a.put o5.dst v) w) : wpAnyH P md (o0 :: o1 :: o2 :: o3 :: o4 :: o5 :: r).toArray Q S (fuel + 1) listed a w := wpAnyH_yields (i := 5) v rfl hs hf hr hg hQ hy hS h
theorem hone_5 {o0 o1 o2 o3 o4 o5 : Oper} {r : List Oper} {Q : Exit → Act → World → Prop} {fuel : Nat} {listed : Array Bool} {a : Act} {w : World} (hr : Region.ready md (o0 :: o1 :: o2 :: o3 :: o4 :: o5 :: r).toArray listed = [5]) (hg : o5.guard = none) (h : ∀ K : Act → World → Prop, (∀ a' w', S w' → wpAnyH P md (o0 :: o1 :: o2 :: o3 :: o4 :: o5 :: r).toArray Q S fuel (listed.setIfInBounds 5 true) a' w' → K a' w') → Oper.wp P o5 a w K Q) : wpAnyH P md (o0 :: o1 :: o2 :: o3 :: o4 :: o5 :: r).toArray Q S (fuel + 1) listed a w := wpAnyH_one (i := 5) rfl hr hg h
theorem htake_6 {o0 o1 o2 o3 o4 o5 o6 : Oper} {r : List Oper} {Q : Exit → Act → World → Prop} (v : Value) {fuel : Nat} {listed : Array Bool} {a : Act} {w : World} (hs : Region.noSelect (o0 :: o1 :: o2 :: o3 :: o4 :: o5 :: o6 :: r).toArray = true) (hf : Region.free md (o0 :: o1 :: o2 :: o3 :: o4 :: o5 :: o6 :: r).toArray listed 6 = true) (hr : (Region.ready md (o0 :: o1 :: o2 :: o3 :: o4 :: o5 :: o6 :: r).toArray listed).contains 6 = true) (hg : o6.guard = none) (hQ : ∀ c a w, Q (.panic c) (a.put o6.dst v) w → Q (.panic c) a w) (hy : ∀ w, S w → (execOp a.eval o6).run P w = .ok (.value v) w) (hS : S w) (h : wpAnyH P md (o0 :: o1 :: o2 :: o3 :: o4 :: o5 :: o6 :: r).toArray Q S fuel (listed.setIfInBounds 6 true) (a.put o6.dst v) w) : wpAnyH P md (o0 :: o1 :: o2 :: o3 :: o4 :: o5 :: o6 :: r).toArray Q S (fuel + 1) listed a w := wpAnyH_yields (i := 6) v rfl hs hf hr hg hQ hy hS h
theorem htake_7 {o0 o1 o2 o3 o4 o5 o6 o7 : Oper} {r : List Oper} {Q : Exit → Act → World → Prop} (v : Value) {fuel : Nat} {listed : Array Bool} {a : Act} {w : World} (hs : Region.noSelect (o0 :: o1 :: o2 :: o3 :: o4 :: o5 :: o6 :: o7 :: r).toArray = true) (hf : Region.free md (o0 :: o1 :: o2 :: o3 :: o4 :: o5 :: o6 :: o7 :: r).toArray listed 7 = true) (hr : (Region.ready md (o0 :: o1 :: o2 :: o3 :: o4 :: o5 :: o6 :: o7 :: r).toArray listed).contains 7 = true) (hg : o7.guard = none) (hQ : ∀ c a w, Q (.panic c) (a.put o7.dst v) w → Q (.panic c) a w) (hy : ∀ w, S w → (execOp a.eval o7).run P w = .ok (.value v) w) (hS : S w) (h : wpAnyH P md (o0 :: o1 :: o2 :: o3 :: o4 :: o5 :: o6 :: o7 :: r).toArray Q S fuel (listed.setIfInBounds 7 true) (a.put o7.dst v) w) : wpAnyH P md (o0 :: o1 :: o2 :: o3 :: o4 :: o5 :: o6 :: o7 :: r).toArray Q S (fuel + 1) listed a w := wpAnyH_yields (i := 7) v rfl hs hf hr hg hQ hy hS h
theorem hone_7 {o0 o1 o2 o3 o4 o5 o6 o7 : Oper} {r : List Oper} {Q : Exit → Act → World → Prop} {fuel : Nat} {listed : Array Bool} {a : Act} {w : World} (hr : Region.ready md (o0 :: o1 :: o2 :: o3 :: o4 :: o5 :: o6 :: o7 :: r).toArray listed = [7]) (hg : o7.guard = none) (h : ∀ K : Act → World → Prop, (∀ a' w', S w' → wpAnyH P md (o0 :: o1 :: o2 :: o3 :: o4 :: o5 :: o6 :: o7 :: r).toArray Q S fuel (listed.setIfInBounds 7 true) a' w' → K a' w') → Oper.wp P o7 a w K Q) : wpAnyH P md (o0 :: o1 :: o2 :: o3 :: o4 :: o5 :: o6 :: o7 :: r).toArray Q S (fuel + 1) listed a w := wpAnyH_one (i := 7) rfl hr hg h
theorem htake_8 {o0 o1 o2 o3 o4 o5 o6 o7 o8 : Oper} {r : List Oper} {Q : Exit → Act → World → Prop} (v : Value) {fuel : Nat} {listed : Array Bool} {a : Act} {w : World} (hs : Region.noSelect (o0 :: o1 :: o2 :: o3 :: o4 :: o5 :: o6 :: o7 :: o8 :: r).toArray = true) (hf : Region.free md (o0 :: o1 :: o2 :: o3 :: o4 :: o5 :: o6 :: o7 :: o8 :: r).toArray listed 8 = true) (hr : (Region.ready md (o0 :: o1 :: o2 :: o3 :: o4 :: o5 :: o6 :: o7 :: o8 :: r).toArray listed).contains 8 = true) (hg : o8.guard = none) (hQ : ∀ c a w, Q (.panic c) (a.put o8.dst v) w → Q (.panic c) a w) (hy : ∀ w, S w → (execOp a.eval o8).run P w = .ok (.value v) w) (hS : S w) (h : wpAnyH P md (o0 :: o1 :: o2 :: o3 :: o4 :: o5 :: o6 :: o7 :: o8 :: r).toArray Q S fuel (listed.setIfInBounds 8 true) (a.put o8.dst v) w) : wpAnyH P md (o0 :: o1 :: o2 :: o3 :: o4 :: o5 :: o6 :: o7 :: o8 :: r).toArray Q S (fuel + 1) listed a w := wpAnyH_yields (i := 8) v rfl hs hf hr hg hQ hy hS h
theorem hone_9 {o0 o1 o2 o3 o4 o5 o6 o7 o8 o9 : Oper} {r : List Oper} {Q : Exit → Act → World → Prop} {fuel : Nat} {listed : Array Bool} {a : Act} {w : World} (hr : Region.ready md (o0 :: o1 :: o2 :: o3 :: o4 :: o5 :: o6 :: o7 :: o8 :: o9 :: r).toArray listed = [9]) (hg : o9.guard = none) (h : ∀ K : Act → World → Prop, (∀ a' w', S w' → wpAnyH P md (o0 :: o1 :: o2 :: o3 :: o4 :: o5 :: o6 :: o7 :: o8 :: o9 :: r).toArray Q S fuel (listed.setIfInBounds 9 true) a' w' → K a' w') → Oper.wp P o9 a w K Q) : wpAnyH P md (o0 :: o1 :: o2 :: o3 :: o4 :: o5 :: o6 :: o7 :: o8 :: o9 :: r).toArray Q S (fuel + 1) listed a w := wpAnyH_one (i := 9) rfl hr hg h
theorem hone_10 {o0 o1 o2 o3 o4 o5 o6 o7 o8 o9 o10 : Oper} {r : List Oper} {Q : Exit → Act → World → Prop} {fuel : Nat} {listed : Array Bool} {a : Act} {w : World} (hr : Region.ready md (o0 :: o1 :: o2 :: o3 :: o4 :: o5 :: o6 :: o7 :: o8 :: o9 :: o10 :: r).toArray listed = [10]) (hg : o10.guard = none) (h : ∀ K : Act → World → Prop, (∀ a' w', S w' → wpAnyH P md (o0 :: o1 :: o2 :: o3 :: o4 :: o5 :: o6 :: o7 :: o8 :: o9 :: o10 :: r).toArray Q S fuel (listed.setIfInBounds 10 true) a' w' → K a' w') → Oper.wp P o10 a w K Q) : wpAnyH P md (o0 :: o1 :: o2 :: o3 :: o4 :: o5 :: o6 :: o7 :: o8 :: o9 :: o10 :: r).toArray Q S (fuel + 1) listed a w := wpAnyH_one (i := 10) rfl hr hg h
end
end Go
