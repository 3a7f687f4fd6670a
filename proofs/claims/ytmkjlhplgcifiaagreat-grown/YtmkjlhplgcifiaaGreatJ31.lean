/-
  Copies of rules and policies.
-/
import Derived.Test.YtmkjlhplgcifiaaGreatJ30
import Derived.Deep.RegionHeld3
namespace Go.Proofs.YtmkjlhplgcifiaaGreat
open Go.ChangeShapes Go.WideShapes Go.ChangeAt Go.RowKit
attribute [local simp] World.cell?_grow
attribute [local go_sem] World.cell?_grow
attribute [local simp] World.cell?_alloc_there
attribute [local go_sem] World.cell?_alloc_there
attribute [local go_sem] eqg_blk std_blk eqg_pod std_pod eqg_sel std_sel eqg_prt std_prt
attribute [local go_sem ↓] eql_blk eql_sel neq_sel eql_prt eql_pod
attribute [local go_sem ↓] met_in1 met_in2 met_re1 met_re2
attribute [local go_sem ↓] met_has1 met_has2
attribute [local go_sem ↓] met_bl1 met_bl2
set_option linter.unusedVariables false
set_option linter.unusedSimpArgs false
theorem keep_far {w : World} {p : Addr} {b o : Nat} {u v : Value} (h : w.cell? ⟨b, o, none⟩ = some u) (hne : p.block ≠ b) : (w.setCell p v).cell? ⟨b, o, none⟩ = some u := (World.cell?_setCell_far w p ⟨b, o, none⟩ v hne).trans h
set_option maxRecDepth 100000 in
set_option maxHeartbeats 1000000 in
theorem copyRule_any (r : DRule) (pa qa : Option Addr) (pc qc : Nat) (w : World) (hp : rdPeers w.heap.size w pa r.peers) (hq : rdPorts w.heap.size w qa r.ports) :
    Calls Tryz.prog 99 #[.agg #[.slice pa r.peers.length pc, .slice qa r.ports.length qc]] w
      fun e w' => (∃ a c a' c', e = .returned (.agg #[.slice a r.peers.length c, .slice a' r.ports.length c']) ∧ rdPeers w'.heap.size (hide w' (low w.heap.size)) a r.peers ∧ rdPorts w'.heap.size (hide w' (low w.heap.size)) a' r.ports) ∧ Below w.heap.size w w' := by
  have HP := hid hp
  have HQ := hid hq
  clear hp hq
  go_enter Tryz.func99, Tryz.ntmps99
  go_wp2
  have q0 : ((w.alloc (.cells #[.slice pa r.peers.length pc, .slice qa r.ports.length qc] 64)).alloc (.cells #[.slice none 0 0, .slice none 0 0] 64)).heap[w.heap.size]? = some (.cells #[.slice pa r.peers.length pc, .slice qa r.ports.length qc] 64 (0, 0)) := (Below.heap_alloc _ _ _ (by simp)).trans (new_heap _ _)
  have q1 : ((w.alloc (.cells #[.slice pa r.peers.length pc, .slice qa r.ports.length qc] 64)).alloc (.cells #[.slice none 0 0, .slice none 0 0] 64)).heap[w.heap.size + 1]? = some (.cells #[.slice none 0 0, .slice none 0 0] 64 (0, 0)) := by
    have := new_heap (w.alloc (.cells #[.slice pa r.peers.length pc, .slice qa r.ports.length qc] 64)) (.cells #[.slice none 0 0, .slice none 0 0] 64)
    simpa only [World.size_alloc] using this
  have hB : Below w.heap.size w ((w.alloc (.cells #[.slice pa r.peers.length pc, .slice qa r.ports.length qc] 64)).alloc (.cells #[.slice none 0 0, .slice none 0 0] 64)) := (by repeat (first | exact Below.refl _ _ | assumption | apply Ext.alloc | apply Ext.drewN | apply Ext.drew | refine Ext.trans ?_ (by assumption)))
  have hS : w.heap.size + 2 ≤ ((w.alloc (.cells #[.slice pa r.peers.length pc, .slice qa r.ports.length qc] 64)).alloc (.cells #[.slice none 0 0, .slice none 0 0] 64)).heap.size := by simp only [World.size_alloc]; omega
  generalize (w.alloc (.cells #[.slice pa r.peers.length pc, .slice qa r.ports.length qc] 64)).alloc (.cells #[.slice none 0 0, .slice none 0 0] 64) = W at q0 q1 hB hS ⊢
  have x0 : W.drew.cell? ⟨w.heap.size, 0, none⟩ = some (.slice pa r.peers.length pc) := (blk_cell q0 0).trans rfl
  have x1 : W.drew.cell? ⟨w.heap.size, 1, none⟩ = some (.slice qa r.ports.length qc) := (blk_cell q0 1).trans rfl
  have y0 : W.cell? ⟨w.heap.size, 0, none⟩ = some (.slice pa r.peers.length pc) := x0
  have y1 : W.cell? ⟨w.heap.size, 1, none⟩ = some (.slice qa r.ports.length qc) := x1
  have HB := hid hB
  have Q0 := hid q0
  have Q1 := hid q1
  clear hB q0 q1
  go_region_held3 (fun w' => w'.cell? ⟨w.heap.size, 0, none⟩ = some (.slice pa r.peers.length pc) ∧ w'.cell? ⟨w.heap.size, 1, none⟩ = some (.slice qa r.ports.length qc)) (first | (refine ⟨keep_far (by assumption) ?_, keep_far (by assumption) ?_⟩ <;> (simp only []; omega)) | go_keep) (first
    | (go_at_call 130; refine (mapPeer_any r.peers pa pc W.drew (rdPeers.ext HB.out.drew HB.out.size HP.out)).mono ?_; rintro e w3 ⟨⟨a3, c3, rfl, _, hr3⟩, hb3⟩; have z0 := cell_to x0 hb3; have z1 := cell_to x1 hb3; have HB3 := hid hb3; have HR3 := hid hr3; clear hb3 hr3)
    | (go_at_call 132; refine (clonePorts_any r.ports qa qc w3 (rdPorts.ext (HB.out.drew.trans (HB3.out.mono HB.out.size)) (Nat.le_trans HB.out.size HB3.out.size) HQ.out)).mono ?_; rintro e w4 ⟨⟨a4, c4, rfl, _, hr4⟩, hb4⟩; have v0 := cell_to z0 hb4; have v1 := cell_to z1 hb4; have HB4 := hid hb4; have HR4 := hid hr4; have hs3 := HB3.out.size; have n1 : w4.heap[w.heap.size + 1]? = some (.cells #[.slice none 0 0, .slice none 0 0] 64 (0, 0)) := (hb4.block _ (by have : W.heap.size ≤ w3.heap.size := hs3; omega)).trans ((HB3.out.block _ (by show _ < W.heap.size; omega)).trans Q1.out); have l0 : w4.cell? ⟨w.heap.size + 1, 0, none⟩ = some (.slice none 0 0) := (blk_cell n1 0).trans rfl; have l1 : w4.cell? ⟨w.heap.size + 1, 1, none⟩ = some (.slice none 0 0) := (blk_cell n1 1).trans rfl; have lf := blk_frozen n1; clear hb4 hr4 n1))
  go_wp2
  have hs4 := HB4.out.size
  refine bodyPost_ret (v := .agg #[.slice a3 r.peers.length c3, .slice a4 r.ports.length c4]) (by simp [results, Tryz.results99, go_sem, l0, l1]) rfl ⟨⟨a3, c3, a4, c4, rfl, ?_, ?_⟩, ?_⟩
  · refine rdPeers.sub (Sub.trans ?_ (Sub.low (m := W.heap.size) (by omega))) (by simpa using hs4) HR3.out
    iterate 2 refine Sub.trans ?_ (Sub.set _ _ (by simp only [low, decide_eq_true_eq]; omega))
    exact Sub.grow HB4.out
  · refine rdPorts.sub (Sub.trans ?_ (Sub.low (m := w3.heap.size) (by have : W.heap.size ≤ w3.heap.size := hs3; omega))) (by simp) HR4.out
    iterate 2 refine Sub.trans ?_ (Sub.set _ _ (by simp only [low, decide_eq_true_eq]; have : W.heap.size ≤ w3.heap.size := hs3; omega))
    exact Sub.refl _
  · iterate 2 refine Below.setCell ?_ (by simp) _
    exact HB.out.drew.trans ((HB3.out.mono HB.out.size).trans (HB4.out.mono (Nat.le_trans HB.out.size hs3)))
set_option maxRecDepth 100000 in
theorem mapRule_any (l : List DRule) (a : Option Addr) (cap : Nat) (w : World) (hl : rdRules w.heap.size w a l) :
    Calls Tryz.prog 98 #[.slice a l.length cap, .func (.func 99) #[] #[]] w
      fun e w' => (∃ a c, e = .returned (.slice a l.length c) ∧ l.length ≤ c ∧ rdRules w'.heap.size (hide w' (low w.heap.size)) a l) ∧ Below w.heap.size w w' := by
  have HL := hid hl
  have hlen := hl.1
  clear hl
  obtain ⟨i0, hi, iz0, iz1, iz2⟩ := info_parts info_rule
  go_enter Tryz.func98, Tryz.ntmps98
  go_wp2
  go_loopw [5, 10] (fun v i wr => ∃ (k : Nat) (ys : List XRule), k ≤ l.length ∧ i = .int .i64 k ∧ ys.map (·.d) = l.take k ∧ UpRules w.heap.size wr v ys ∧ Below w.heap.size w wr) (fun _ i _ => l.length - (intOf i).toNat)
  case atStart => exact ⟨0, [], Nat.zero_le _, rfl, rfl, Up.nil _ _, Below.refl _ _⟩
  case round =>
    obtain ⟨k, ys, hk, rfl, hys, hup, hbw⟩ := hrel
    have HYS := hid hys
    have HU := hid hup
    have HBW := hid hbw
    have hyl := cpy_len hys
    have hws := hbw.size
    clear hys hup
    by_cases hlt : k < l.length
    · obtain ⟨x, hxk⟩ : ∃ x, l[k]? = some x := ⟨l[k], by simp [hlt]⟩
      have HX := hid hxk
      obtain ⟨b, off, rfl, hb, ⟨pa, pc, c0, hrp⟩, qa, qc, c1, hrq⟩ := HL.out.2 k x hxk
      have HRP := hid hrp
      have HRQ := hid hrq
      obtain ⟨hc, hf⟩ := bcell hbw
      clear hxk hrp hrq
      go_wp2_with (first
        | (go_at_call 99; go_must (refine (copyRule_any x pa qa pc qc _ (rdPeers.to HRP.out (by repeat (first | exact Below.refl _ _ | assumption | apply Ext.alloc | apply Ext.drewN | apply Ext.drew | refine Ext.trans ?_ (by assumption)))) (rdPorts.to HRQ.out (by repeat (first | exact Below.refl _ _ | assumption | apply Ext.alloc | apply Ext.drewN | apply Ext.drew | refine Ext.trans ?_ (by assumption))))).mono ?_); rintro e w2 ⟨⟨a2, c2, a2', c2', rfl, hr2, hr2'⟩, hb2⟩; have HB2 := hid (show Below wr.heap.size wr w2 from (by repeat (first | exact Below.refl _ _ | assumption | apply Ext.alloc | apply Ext.drewN | apply Ext.drew | refine Ext.trans ?_ (by assumption)))); have HR2 := hid (show rdPeers w2.heap.size (hide w2 (low (wr.heap.size + 1))) a2 x.peers by simpa only [World.size_alloc] using hr2); have HR2' := hid (show rdPorts w2.heap.size (hide w2 (low (wr.heap.size + 1))) a2' x.ports by simpa only [World.size_alloc] using hr2'); have HU2 := hid (HU.out.grow NRule.mono HB2.out); have hs2 := HB2.out.size; clear hr2 hr2' hb2)
        | (at_builtin; refine wpList_append_own_at _ rfl _ _ 57 rfl w.heap.size 64 i0 _ 2 48 Tryz.underlying57 hi iz0 iz1 iz2 rfl (by decide) _ _ _ rfl (HU2.out.1.alloc (.cells (encXRule ⟨x, a2, c2, a2', c2'⟩).toArray 64)) ⟨w2.heap.size, 0, none⟩ 1 1 (encXRule ⟨x, a2, c2, a2', c2'⟩) rfl rfl (cell_new_list w2 (encXRule ⟨x, a2, c2, a2', c2'⟩) _) (by intro u hu; simp only [encXRule, List.mem_cons, List.not_mem_nil, or_false] at hu; rcases hu with rfl | rfl <;> rfl) (by unfold maxLen; omega) (by omega) (by rw [World.size_alloc]; omega) ?_; intro v' w3 hown3 hg3 hnil3 hat3))
      have hB3 : Below w2.heap.size w2 (w2.alloc (.cells (encXRule ⟨x, a2, c2, a2', c2'⟩).toArray 64)) := (Below.refl _ w2).alloc (Nat.le_refl _) _
      refine ⟨⟨k + 1, ys ++ [⟨x, a2, c2, a2', c2'⟩], by omega, by go_num, cpy_take HYS.out HX.out, ?_, ?_⟩, by simp [intOf]; omega⟩
      · exact Up.app NRule.mono (m := wr.heap.size + 1) (HU2.out.grow NRule.mono hB3) (by omega) (fun g hg => by have := (HU.out.lt g hg).2; omega) ⟨rdPeers.sub (Sub.grow hB3) hB3.size HR2.out, rdPorts.sub (Sub.grow hB3) hB3.size HR2'.out⟩ hown3 hg3 hat3
      · exact own_below (((HBW.out.trans (HB2.out.mono hws))).trans (hB3.mono (by omega))) (by rw [World.size_alloc]; omega) (HU2.out.1.alloc _) hg3
    · go_wp2
      have he : l.take k = l := List.take_of_length_le (by omega)
      obtain ⟨a2, c2, rfl, hc2, hr2⟩ := upRules_done' HU.out (by omega)
      rw [HYS.out, he] at hc2 hr2 ⊢
      go_ret
      exact ⟨⟨a2, c2, rfl, hc2, hr2⟩, hbw⟩
end Go.Proofs.YtmkjlhplgcifiaaGreat
