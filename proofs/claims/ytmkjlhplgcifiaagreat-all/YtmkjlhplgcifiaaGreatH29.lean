/-
  palisaderef: copiedRules, walked.
-/
import Derived.Test.YtmkjlhplgcifiaaGreatH28
import Derived.Test.YtmkjlhplgcifiaaGreatH26
import Derived.Test.YtmkjlhplgcifiaaGreatH16
import Derived.Deep.CutBlock
namespace Go.Proofs.YtmkjlhplgcifiaaGreat
open Go.ChangeShapes Go.WideShapes Go.ChangeAt Go.RowKit
set_option linter.unusedVariables false
set_option linter.unusedSimpArgs false
attribute [local simp] World.cell?_grow World.cell?_alloc_there
attribute [local go_sem] World.cell?_grow World.cell?_alloc_there eqg_blk std_blk eqg_pod std_pod eqg_sel std_sel eqg_prt std_prt eqg_row std_row
attribute [local go_sem ↓] eql_blk eql_sel neq_sel eql_prt eql_pod met_in1 met_in2 met_re1 met_re2 met_has1 met_has2 met_bl1 met_bl2 neq_row
set_option maxRecDepth 100000 in
set_option maxHeartbeats 8000000 in
theorem copiedRules_any (l : List DRule) (la : Option Addr) (lc : Nat) (w : World) (hl : rdRules w.heap.size w la l) :
    Calls Tryz.prog 141 #[.slice la l.length lc] w
      fun e w' => (∃ a c, e = .returned (.slice a l.length c) ∧ l.length ≤ c ∧ rdRules w'.heap.size (hide w' (low w.heap.size)) a l) ∧ Below w.heap.size w w' := by
  have HL := hid hl
  have hlen := hl.1
  clear hl
  obtain ⟨ip0, hip, ipz0, ipz1, ipz2⟩ := info_parts info_peer
  obtain ⟨ib0, hib, ibz0, ibz1, ibz2⟩ := info_parts info_blk
  obtain ⟨iq0, hiq, iqz0, iqz1, iqz2⟩ := info_parts info_port
  obtain ⟨ir0, hir, irz0, irz1, irz2⟩ := info_parts info_rule
  go_enter Tryz.func141, Tryz.ntmps141
  go_wp2
  go_loopw [3, 4] (fun v i wr => ∃ (k : Nat) (xs : List XRule), k ≤ l.length ∧ i = .int .i64 k ∧ xs.map (·.d) = l.take k ∧ UpRules w.heap.size wr v xs ∧ Below w.heap.size w wr) (fun _ i _ => l.length - (intOf i).toNat)
  case atStart => exact ⟨0, [], Nat.zero_le _, rfl, rfl, Up.nil _ _, Below.refl _ _⟩
  case round =>
    obtain ⟨k, xs, hk, rfl, hxs, hup, hbw⟩ := hrel
    obtain ⟨kv, hkv⟩ : ∃ v, v = u3 := ⟨_, rfl⟩
    obtain ⟨wa, hwa⟩ : ∃ wa, wa = wr := ⟨_, rfl⟩
    subst hkv hwa
    have hxl := cpy_len hxs
    have HXS := hid hxs
    have HU := hid hup
    have HB := hid hbw
    have hwa := hbw.size
    clear hxs hup
    by_cases hlt : k < l.length
    · obtain ⟨r, hrk⟩ : ∃ r, l[k]? = some r := ⟨l[k], by simp [hlt]⟩
      have HRK := hid hrk
      obtain ⟨b, off, rfl, hb, ⟨pa, pc, c0, hrp⟩, qa, qc, c1, hrq⟩ := HL.out.2 k r hrk
      have HRP := hid hrp
      have HRQ := hid hrq
      have d0 := cell_to c0 hbw
      have d1 := cell_to c1 hbw
      have z1 : (k : Int) < (l.length : Int) := by omega
      have hpl := hrp.1
      have hql := hrq.1
      clear hrk hrp hrq c0 c1
      go_wp2_with fail
      have e0 := cell_past (o := (.cells #[.slice none 0 0, .slice none 0 0] 64)) d0
      have e1 := cell_past (o := (.cells #[.slice none 0 0, .slice none 0 0] 64)) d1
      have hW2 : (wa.alloc (.cells #[.slice none 0 0, .slice none 0 0] 64)).heap.size = wa.heap.size + 1 := World.size_alloc _ _
      have hr2 : (wa.alloc (.cells #[.slice none 0 0, .slice none 0 0] 64)).heap[wa.heap.size]? = some (.cells #[.slice none 0 0, .slice none 0 0] 64 (0, 0)) := new_heap _ _
      have hB2 : Below wa.heap.size wa (wa.alloc (.cells #[.slice none 0 0, .slice none 0 0] 64)) := (Below.refl _ _).alloc (Nat.le_refl _) _
      generalize wa.alloc (.cells #[.slice none 0 0, .slice none 0 0] 64) = W2 at e0 e1 hW2 hr2 hB2 ⊢
      have g1 : W2.cell? ⟨wa.heap.size, 1, none⟩ = some (.slice none 0 0) := (blk_cell hr2 1).trans rfl
      have HR2 := hid hr2
      have HB2 := hid hB2
      clear d0 d1 hr2 hB2
      have hbd : Below w.heap.size w W2.drew := (HB.out.trans (HB2.out.mono hwa)).drew
      have HRQ2 := hid (rdPorts.ext hbd hbd.size HRQ.out)
      refine wp_region_held_tail (S := (fun w' => w'.cell? ⟨wa.heap.size, 1, none⟩ = some (.slice none 0 0) ∧ w'.cell? ⟨b, off + k * 2 + 1, none⟩ = some (.slice qa r.ports.length qc))) 8 (by kernel_rfl) (by kernel_rfl) ?_
      simp only [takes_8, drops_8]
      have hS0 : (fun w' => w'.cell? ⟨wa.heap.size, 1, none⟩ = some (.slice none 0 0) ∧ w'.cell? ⟨b, off + k * 2 + 1, none⟩ = some (.slice qa r.ports.length qc)) W2.drew := ⟨g1, e1⟩
      refine htake_0 (.pointer (some ⟨wa.heap.size, 1, none⟩)) (by kernel_rfl) (by kernel_rfl) (by kernel_rfl) rfl (fun _ _ _ h => h) (fun w' hSw => by (obtain ⟨s0, s1⟩ := hSw; go_simp)) hS0 ?_
      try simp only [Act.put, List.setIfInBounds_toArray, List.set_cons_zero, List.set_cons_succ]
      refine htake_1 (.slice none 0 0) (by kernel_rfl) (by kernel_rfl) (by kernel_rfl) rfl (fun _ _ _ h => h) (fun w' hSw => by (obtain ⟨s0, s1⟩ := hSw; go_simp)) hS0 ?_
      try simp only [Act.put, List.setIfInBounds_toArray, List.set_cons_zero, List.set_cons_succ]
      refine htake_2 (.slice (some ⟨b, off, none⟩) l.length lc) (by kernel_rfl) (by kernel_rfl) (by kernel_rfl) rfl (fun _ _ _ h => h) (fun w' hSw => by (obtain ⟨s0, s1⟩ := hSw; go_simp)) hS0 ?_
      try simp only [Act.put, List.setIfInBounds_toArray, List.set_cons_zero, List.set_cons_succ]
      refine htake_3 (.int .i64 k) (by kernel_rfl) (by kernel_rfl) (by kernel_rfl) rfl (fun _ _ _ h => h) (fun w' hSw => by (obtain ⟨s0, s1⟩ := hSw; go_simp)) hS0 ?_
      try simp only [Act.put, List.setIfInBounds_toArray, List.set_cons_zero, List.set_cons_succ]
      refine htake_4 (.pointer (some ⟨b, off + k * 2, none⟩)) (by kernel_rfl) (by kernel_rfl) (by kernel_rfl) rfl (fun _ _ _ h => h) (fun w' hSw => by (obtain ⟨s0, s1⟩ := hSw; go_simp)) hS0 ?_
      try simp only [Act.put, List.setIfInBounds_toArray, List.set_cons_zero, List.set_cons_succ]
      refine htake_5 (.pointer (some ⟨b, off + k * 2 + 1, none⟩)) (by kernel_rfl) (by kernel_rfl) (by kernel_rfl) rfl (fun _ _ _ h => h) (fun w' hSw => by (obtain ⟨s0, s1⟩ := hSw; go_simp)) hS0 ?_
      try simp only [Act.put, List.setIfInBounds_toArray, List.set_cons_zero, List.set_cons_succ]
      refine htake_6 (.slice qa r.ports.length qc) (by kernel_rfl) (by kernel_rfl) (by kernel_rfl) rfl (fun _ _ _ h => h) (fun w' hSw => by (obtain ⟨s0, s1⟩ := hSw; go_simp)) hS0 ?_
      try simp only [Act.put, List.setIfInBounds_toArray, List.set_cons_zero, List.set_cons_succ]
      refine hone_7 (by kernel_rfl) rfl (fun K hK => ?_)
      refine wp_append_list _ (.tmp 16) (.tmp 21) 62 rfl W2.heap.size 109 iq0 _ 3 24 Tryz.underlying62 hiq iqz0 iqz1 iqz2 rfl (by decide) (.slice none 0 0) 0 [] rfl (World.ownsRow_nil _ _ _ _) qa r.ports.length qc (r.ports.flatMap encPort) rfl (oflat_len (k := 3) (fun _ => rfl) _) (news_of (k := 3) (fun _ => rfl) (by decide) HRQ2.out (fun _ _ _ => ePort_cells)) (encPorts_one _) (by unfold maxLen; omega) (by omega) (Nat.le_refl _) ?_
      intro v' w6 hown6 hg6
      have hup6 : UpPorts W2.heap.size w6 v' r.ports := ⟨by simpa using hown6, fun _ _ => trivial⟩
      obtain ⟨a2, c2, rfl, hc2, hrp2⟩ := upPorts_done' hup6 (by omega)
      have hs6 : W2.heap.size ≤ w6.heap.size := hg6.size
      have hb6 : Below W2.heap.size W2 w6 := ⟨hg6.os, hg6.tape, hg6.output, hg6.size, fun b hb => hg6.block b hb (fun e => by cases e)⟩
      have t6 := (hb6.block wa.heap.size (by omega)).trans HR2.out
      have t1 : w6.cell? ⟨wa.heap.size, 1, none⟩ = some (.slice none 0 0) := (blk_cell t6 1).trans rfl
      have t2 := cell_to e1 hb6
      have tf := blk_frozen t6
      refine hK _ _ ⟨t1, t2⟩ ?_
      refine wpAnyH_done (by kernel_rfl) ?_ _
      show wpList _ _ _ _ _ _
      try simp only [Act.put, List.setIfInBounds_toArray, List.set_cons_zero, List.set_cons_succ]
      have e06 := cell_to e0 hb6
      have HT6 := hid t6
      have HRP2 := hid hrp2
      have HB6 := hid hb6
      have hnb : ¬ b = wa.heap.size := by omega
      have hnb2 : ¬ wa.heap.size = b := by omega
      clear hK hS0 hown6 hg6 hup6 hb6 t6 hrp2 hbd e0 e1 g1 t2
      go_wp2_with fail
      have m0 := set_blk HT6.out 1 (.slice a2 r.ports.length c2)
      have m0 : (w6.setCell ⟨wa.heap.size, 1, none⟩ (.slice a2 r.ports.length c2)).heap[wa.heap.size]? = some (.cells #[.slice none 0 0, .slice a2 r.ports.length c2] 64 (0, 0)) := m0
      have hBM : Below wa.heap.size wa (w6.setCell ⟨wa.heap.size, 1, none⟩ (.slice a2 r.ports.length c2)) := (HB2.out.trans (HB6.out.mono (by omega))).setCell (Nat.le_refl _) _
      have hsM : (w6.setCell ⟨wa.heap.size, 1, none⟩ (.slice a2 r.ports.length c2)).heap.size = w6.heap.size := World.size_setCell _ _ _
      have hrM : rdPorts (w6.setCell ⟨wa.heap.size, 1, none⟩ (.slice a2 r.ports.length c2)).heap.size (hide (w6.setCell ⟨wa.heap.size, 1, none⟩ (.slice a2 r.ports.length c2)) (low W2.heap.size)) a2 r.ports := rdPorts.sub (Sub.set _ _ (by simp only [low, decide_eq_true_eq]; omega)) (by rw [World.size_setCell]; exact Nat.le_refl _) HRP2.out
      have e0M : (w6.setCell ⟨wa.heap.size, 1, none⟩ (.slice a2 r.ports.length c2)).cell? ⟨b, off + k * 2, none⟩ = some (.slice pa r.peers.length pc) := keep_far e06 (by show wa.heap.size ≠ b; omega)
      generalize (w6.setCell ⟨wa.heap.size, 1, none⟩ (.slice a2 r.ports.length c2)) = M at m0 hBM hsM hrM e0M ⊢
      have HM0 := hid m0
      have HBM := hid hBM
      have HRM := hid hrM
      clear m0 hBM hrM e06 t1 tf
      go_loopw [6] (fun i wr => ∃ (j : Nat) (v : Value) (ys : List XPeer), j ≤ r.peers.length ∧ i = .int .i64 j ∧ ys.map (·.d) = r.peers.take j ∧ wr.heap[wa.heap.size]? = some (.cells #[v, .slice a2 r.ports.length c2] 64 (0, 0)) ∧ UpPeers M.heap.size wr v ys ∧ M.grownBy wr (some wa.heap.size)) (fun i _ => r.peers.length - (intOf i).toNat)
      case atStart => exact ⟨0, .slice none 0 0, [], Nat.zero_le _, rfl, rfl, HM0.out, Up.nil _ _, gb_refl _ _⟩
      case round =>
        obtain ⟨j, v, ys, hj, rfl, hys, hrb, hup2, hg2⟩ := hrel
        obtain ⟨wb, hwb⟩ : ∃ wb, wb = wr := ⟨_, rfl⟩
        subst hwb
        have hYl := cpy_len hys
        have HYS := hid hys
        have HRB := hid hrb
        have HU2 := hid hup2
        have HG2 := hid hg2
        have hsb := hg2.size
        have f0 : wb.cell? ⟨b, off + k * 2, none⟩ = some (.slice pa r.peers.length pc) := hg2.cell e0M (fun e => by have := Option.some.inj e; simp only at this; omega)
        have g0 : wb.cell? ⟨wa.heap.size, 0, none⟩ = some v := (blk_cell hrb 0).trans rfl
        have g1 : wb.cell? ⟨wa.heap.size, 1, none⟩ = some (.slice a2 r.ports.length c2) := (blk_cell hrb 1).trans rfl
        have gf := blk_frozen hrb
        have HBb := hid (show Below wa.heap.size wa wb from HBM.out.trans (gb_low hg2 (Nat.le_refl _) (by omega)))
        have HBw := hid (show Below w.heap.size w wb from HB.out.trans (HBb.out.mono hwa))
        have HVB := hid (show ∀ g, v.ownBlock = some g → M.heap.size ≤ g from fun g hg => (hup2.lt g hg).1)
        have HVL := hid (show ∀ g, v.ownBlock = some g → g < wb.heap.size from fun g hg => (hup2.lt g hg).2)
        clear hys hrb hup2 hg2
        by_cases hltj : j < r.peers.length
        · obtain ⟨p, hpj⟩ : ∃ p, r.peers[j]? = some p := ⟨r.peers[j], by simp [hltj]⟩
          have HPJ := hid hpj
          obtain ⟨pb, po, rfl, hpb, p0, p1, p2, p3, p4, p5, ea, ec, p6, hre⟩ := HRP.out.2 j p hpj
          have hel := hre.1
          have HRE := hid hre
          have z3 : (j : Int) < (r.peers.length : Int) := by omega
          have q0 := cell_to p0 HBw.out
          have q1 := cell_to p1 HBw.out
          have q2 := cell_to p2 HBw.out
          have q3 := cell_to p3 HBw.out
          have q4 := cell_to p4 HBw.out
          have q5 := cell_to p5 HBw.out
          have q6 := cell_to p6 HBw.out
          clear hpj hre p0 p1 p2 p3 p4 p5 p6
          have hbA : Below w.heap.size w (wb.alloc (.cells #[.int .i64 p.kind, .int .i64 p.need, .int .i64 p.ban, .int .i64 p.spaces, .int .i64 p.base, .int .i64 p.bits, .slice ea p.exc.length ec] 69)) := HBw.out.alloc HBw.out.size _
          have HREA := hid (rdBlks.ext hbA hbA.size HRE.out)
          have hnA := new_heap wb (.cells #[.int .i64 p.kind, .int .i64 p.need, .int .i64 p.ban, .int .i64 p.spaces, .int .i64 p.base, .int .i64 p.bits, .slice ea p.exc.length ec] 69)
          have HNA := hid hnA
          clear hbA hnA
          go_wp2_with (first
            | (at_builtin; refine wpList_append_list _ rfl _ _ 67 rfl (wb.heap.size + 1) 47 ib0 _ 2 16 Tryz.underlying67 hib ibz0 ibz1 ibz2 rfl (by decide) (.slice none 0 0) 0 [] rfl (World.ownsRow_nil _ _ _ _) ea p.exc.length ec (p.exc.flatMap encBlk) rfl (oflat_len (k := 2) (fun _ => rfl) _) (news_of (k := 2) (fun _ => rfl) (by decide) HREA.out (fun _ _ _ => eBlk_cells)) (encBlk_one _) (by unfold maxLen; omega) (by omega) (by rw [World.size_alloc]; exact Nat.le_refl _) ?_; intro v5 w5 hown5 hg5; obtain ⟨a5, c5, hv5, hc5, hr5⟩ := upBlks_done' (base := wb.heap.size + 1) (w := w5) (v := v5) (l := p.exc) ⟨by simpa using hown5, fun _ _ => trivial⟩ (by omega); subst hv5; have hb5 : Below wb.heap.size wb w5 := ((Below.refl _ wb).alloc (Nat.le_refl _) (.cells #[.int .i64 p.kind, .int .i64 p.need, .int .i64 p.ban, .int .i64 p.spaces, .int .i64 p.base, .int .i64 p.bits, .slice ea p.exc.length ec] 69)).trans (⟨hg5.os, hg5.tape, hg5.output, hg5.size, fun b hb => hg5.block b (by rw [World.size_alloc]; omega) (fun e => by cases e)⟩); have hn5 : w5.heap[wb.heap.size]? = some (.cells #[.int .i64 p.kind, .int .i64 p.need, .int .i64 p.ban, .int .i64 p.spaces, .int .i64 p.base, .int .i64 p.bits, .slice ea p.exc.length ec] 69 (0, 0)) := (hg5.block wb.heap.size (by rw [World.size_alloc]; omega) (fun e => by cases e)).trans HNA.out; have k0 := blk_cell hn5; have kf := blk_frozen hn5; have HX5 := hid ((hb5.block wa.heap.size (by omega)).trans HRB.out); have h05 : w5.cell? ⟨wa.heap.size, 0, none⟩ = some v := (blk_cell HX5.out 0).trans rfl; have h5f := blk_frozen HX5.out; have hs5 := hb5.size; have hss5 : wb.heap.size + 1 ≤ w5.heap.size := (by have := hg5.size; rw [World.size_alloc] at this; exact this); have HR5 := hid hr5; have HB5 := hid hb5; have HBE := hid (show Below wb.heap.size wb (w5.setCell ⟨wb.heap.size, 6, none⟩ (.slice a5 p.exc.length c5)) from hb5.setCell (Nat.le_refl _) _); have HUE := hid (HU2.out.grow NPeer.mono HBE.out); have hn1 : ¬ wa.heap.size = wb.heap.size := (by omega); have hn2 : ¬ wb.heap.size = wa.heap.size := (by omega); have HXE := hid (show (w5.setCell ⟨wb.heap.size, 6, none⟩ (.slice a5 p.exc.length c5)).heap[wa.heap.size]? = _ from (Below.heap_setCell _ _ _ _ (by show wa.heap.size ≠ wb.heap.size; omega)).trans HX5.out); clear hown5 hg5 hr5 hb5 hn5)
            | (at_builtin; refine wpList_append_own_at _ rfl _ _ 61 rfl M.heap.size 69 ip0 _ 7 72 Tryz.underlying61 hip ipz0 ipz1 ipz2 rfl (by decide) _ _ _ rfl (HUE.out.1.alloc (.cells #[.int .i64 p.kind, .int .i64 p.need, .int .i64 p.ban, .int .i64 p.spaces, .int .i64 p.base, .int .i64 p.bits, .slice a5 p.exc.length c5] 69)) ⟨w5.heap.size, 0, none⟩ 1 1 (encXPeer ⟨p, a5, c5⟩) (by simp [go_sem]) rfl (by have := cell_new_list (w5.setCell ⟨wb.heap.size, 6, none⟩ (.slice a5 p.exc.length c5)) (encXPeer ⟨p, a5, c5⟩) 69; simp only [World.size_setCell] at this; exact this) (by intro u hu; simp only [encXPeer, List.mem_cons, List.not_mem_nil, or_false] at hu; rcases hu with rfl | rfl | rfl | rfl | rfl | rfl | rfl <;> rfl) (by unfold maxLen; omega) (by omega) (by rw [World.size_alloc, World.size_setCell]; omega) ?_; intro v8 w8 hown8 hg8 hnil8 hat8; obtain ⟨a8, c8, rfl, _, _⟩ := own_slice hown8; have t8 : w8.heap[wa.heap.size]? = some (.cells #[v, .slice a2 r.ports.length c2] 64 (0, 0)) := (hg8.block wa.heap.size (by rw [World.size_alloc, World.size_setCell]; omega) (fun e => by have := HVB.out _ e.symm; omega)).trans ((Below.heap_alloc _ _ _ (by rw [World.size_setCell]; omega)).trans HXE.out); have y8 : w8.cell? ⟨wa.heap.size, 0, none⟩ = some v := (blk_cell t8 0).trans rfl; have yf8 := blk_frozen t8; have HT8 := hid t8; have HO8 := hid hown8; have HG8 := hid hg8; have HA8 := hid hat8; clear hown8 hg8 hnil8 hat8 t8))
          obtain ⟨E, hE⟩ : ∃ E, E = (w5.setCell ⟨wb.heap.size, 6, none⟩ (.slice a5 p.exc.length c5)) := ⟨_, rfl⟩
          have hG8 := HG8.out
          have hA8 := HA8.out
          have hBE := HBE.out
          have hR5 : rdBlks E.heap.size (hide E (low (wb.heap.size + 1))) a5 p.exc := by rw [hE]; exact rdBlks.sub (Sub.set _ _ (by simp only [low, decide_eq_true_eq]; omega)) (by rw [World.size_setCell]; exact Nat.le_refl _) HR5.out
          rw [← hE] at hG8 hA8 hBE
          have hZE : Below E.heap.size E (E.alloc (.cells #[.int .i64 p.kind, .int .i64 p.need, .int .i64 p.ban, .int .i64 p.spaces, .int .i64 p.base, .int .i64 p.bits, .slice a5 p.exc.length c5] 69)) := bel
          have hZ : Below wb.heap.size wb (E.alloc (.cells #[.int .i64 p.kind, .int .i64 p.need, .int .i64 p.ban, .int .i64 p.spaces, .int .i64 p.base, .int .i64 p.bits, .slice a5 p.exc.length c5] 69)) := hBE.trans (hZE.mono hBE.size)
          have hN : NPeer (E.alloc (.cells #[.int .i64 p.kind, .int .i64 p.need, .int .i64 p.ban, .int .i64 p.spaces, .int .i64 p.base, .int .i64 p.bits, .slice a5 p.exc.length c5] 69)).heap.size (hide (E.alloc (.cells #[.int .i64 p.kind, .int .i64 p.need, .int .i64 p.ban, .int .i64 p.spaces, .int .i64 p.base, .int .i64 p.bits, .slice a5 p.exc.length c5] 69)) (low (wb.heap.size + 1))) ⟨p, a5, c5⟩ := rdBlks.sub (Sub.grow hZE) hZE.size hR5
          refine ⟨⟨j + 1, _, ys ++ [⟨p, a5, c5⟩], by omega, by go_num, cpy_take HYS.out HPJ.out, (set_blk HT8.out 0 _).trans rfl, ?_, gb_set (gb_row (gb_below HG2.out hZ) hG8 HVB.out) 0 _⟩, by simp [intOf]; omega⟩
          have g3 := Up.app NPeer.mono (m := wb.heap.size + 1) (HU2.out.grow NPeer.mono hZ) (by omega) (fun g hg => by have := HVL.out g hg; omega) hN HO8.out hG8 hA8
          exact g3.set NPeer.mono ⟨wa.heap.size, 0, none⟩ _ (by show wa.heap.size < M.heap.size; omega)
        · have z3 : ¬ (j : Int) < (r.peers.length : Int) := by omega
          have he : r.peers.take j = r.peers := List.take_of_length_le (by omega)
          have hYS := HYS.out
          rw [he] at hYS
          obtain ⟨pa2, pc2, hv2, hpc2, hrp3⟩ := upPeers_done' HU2.out (by omega)
          rw [hYS] at hv2 hrp3
          subst hv2
          have HRP3 := hid hrp3
          have HMR := hid (show r = ⟨r.peers, r.ports⟩ from rfl)
          have HN := hid (show ∀ o, NRule (wb.alloc o).heap.size (hide (wb.alloc o) (low W2.heap.size)) ⟨r, pa2, pc2, a2, c2⟩ from fun o =>
            have hb := (Below.refl wb.heap.size wb).alloc (Nat.le_refl _) o
            ⟨rdPeers.sub ((Sub.low (by omega)).trans (Sub.grow hb)) hb.size HRP3.out,
             rdPorts.sub ((Sub.hide fun b' hb' hG => ⟨hG, HG2.out.block b' hb' (fun e => by cases e; have := low_false.1 hG; omega)⟩).trans (Sub.grow hb)) (Nat.le_trans hsb hb.size) HRM.out⟩)
          have HUD := hid (HU.out.grow NRule.mono HBb.out)
          have HKL := hid (show ∀ g, kv.ownBlock = some g → g < wa.heap.size from fun g hg => (HU.out.lt g hg).2)
          have hdl := HBb.out.size
          have hbz : (xs.length + 1) * 48 ≤ 140737488355328 := by omega
          clear hrp3 he hYS
          go_wp2_with (at_builtin; go_must (refine wpList_append_own_at _ rfl _ _ 57 rfl w.heap.size 64 ir0 _ 2 48 Tryz.underlying57 hir irz0 irz1 irz2 rfl (by decide) _ _ _ rfl (HUD.out.1.alloc (.cells #[.slice pa2 r.peers.length pc2, .slice a2 r.ports.length c2] 64)) ⟨wb.heap.size, 0, none⟩ 1 1 (encXRule ⟨r, pa2, pc2, a2, c2⟩) rfl rfl (cell_new_list wb (encXRule ⟨r, pa2, pc2, a2, c2⟩) _) (by intro u hu; simp only [encXRule, List.mem_cons, List.not_mem_nil, or_false] at hu; rcases hu with rfl | rfl <;> rfl) (by unfold maxLen; omega) hbz (by rw [World.size_alloc]; omega) ?_); intro v' w8 hown8 hg8 hnil8 hat8; have HO8 := hid hown8; have HG8 := hid hg8; have HA8 := hid hat8; clear hown8 hg8 hnil8 hat8)
          have hbz2 : Below wb.heap.size wb (wb.alloc (.cells #[.slice pa2 r.peers.length pc2, .slice a2 r.ports.length c2] 64)) := (Below.refl _ wb).alloc (Nat.le_refl _) _
          refine ⟨⟨k + 1, xs ++ [⟨r, pa2, pc2, a2, c2⟩], by omega, by go_num, cpy_take HXS.out HRK.out, ?_, ?_⟩, by simp [intOf]; omega⟩
          · have g1 := HUD.out.grow NRule.mono hbz2
            exact Up.app NRule.mono (m := W2.heap.size) g1 (by omega) (fun g hg => by have := HKL.out g hg; omega) (HN.out _) HO8.out HG8.out HA8.out
          · exact own_below (HBw.out.alloc HBw.out.size _) (by rw [World.size_alloc]; omega) (HUD.out.1.alloc _) HG8.out
    · have z1 : ¬ (k : Int) < (l.length : Int) := by omega
      have he : l.take k = l := List.take_of_length_le (by omega)
      have hxs2 := HXS.out
      rw [he] at hxs2
      obtain ⟨a, c, hv, hc, hr⟩ := upRules_done' HU.out (by omega)
      rw [hxs2] at hv hc hr
      subst hv
      have HR := hid hr
      clear hr he hxs2
      go_wp2
      go_ret
      exact ⟨⟨a, c, rfl, hc, HR.out⟩, HB.out⟩
theorem Up.gb0 {X : Type} {e : TypeId} {k : Nat} {enc : X → List Value} {N : Nat → World → X → Prop} (hN : Mono N) {base q : Nat} {w w' : World} {v : Value} {ys : List X} (h : Up e k enc N base w v ys) (hg : w.grownBy w' (some q)) (hq : q < base) : Up e k enc N base w' v ys :=
  ⟨own_stay h.1 fun g hgv => hg.block g (h.lt g hgv).2 (fun e => by cases e; have := (h.lt _ hgv).1; omega),
   fun y hy => hN _ _ _ _ y (Sub.hide fun b hb hG => ⟨hG, hg.block b hb (fun e => by cases e; have := (lowOr_false.1 hG).1; omega)⟩) hg.size (h.2 y hy)⟩
set_option maxRecDepth 100000 in
set_option maxHeartbeats 2000000 in
theorem copiedPolicy_any (p : DPol) (oa ia : Option Addr) (oc ic : Nat) (w : World) (ho : rdRules w.heap.size w oa p.outs) (hi : rdRules w.heap.size w ia p.ins) :
    Calls Tryz.prog 109 #[.agg #[.int .i64 p.space, .int .i64 p.need, .int .i64 p.ban, .int .i64 p.ways, .slice oa p.outs.length oc, .slice ia p.ins.length ic]] w
      fun e w' => (∃ a c a' c', e = .returned (.agg #[.int .i64 p.space, .int .i64 p.need, .int .i64 p.ban, .int .i64 p.ways, .slice a p.outs.length c, .slice a' p.ins.length c']) ∧ rdRules w'.heap.size (hide w' (low w.heap.size)) a p.outs ∧ rdRules w'.heap.size (hide w' (low w.heap.size)) a' p.ins) ∧ Below w.heap.size w w' := by
  have HO := hid ho
  have HI := hid hi
  clear ho hi
  go_enter Tryz.func109, Tryz.ntmps109
  go_wp2_with fail
  have q0 : ((w.alloc (.cells #[.int .i64 p.space, .int .i64 p.need, .int .i64 p.ban, .int .i64 p.ways, .slice oa p.outs.length oc, .slice ia p.ins.length ic] 59)).alloc (.cells #[.int .i64 0, .int .i64 0, .int .i64 0, .int .i64 0, .slice none 0 0, .slice none 0 0] 59)).heap[w.heap.size]? = some (.cells #[.int .i64 p.space, .int .i64 p.need, .int .i64 p.ban, .int .i64 p.ways, .slice oa p.outs.length oc, .slice ia p.ins.length ic] 59 (0, 0)) := (Below.heap_alloc _ _ _ (by simp)).trans (new_heap _ _)
  have q1 : ((w.alloc (.cells #[.int .i64 p.space, .int .i64 p.need, .int .i64 p.ban, .int .i64 p.ways, .slice oa p.outs.length oc, .slice ia p.ins.length ic] 59)).alloc (.cells #[.int .i64 0, .int .i64 0, .int .i64 0, .int .i64 0, .slice none 0 0, .slice none 0 0] 59)).heap[w.heap.size + 1]? = some (.cells #[.int .i64 0, .int .i64 0, .int .i64 0, .int .i64 0, .slice none 0 0, .slice none 0 0] 59 (0, 0)) := by
    have := new_heap (w.alloc (.cells #[.int .i64 p.space, .int .i64 p.need, .int .i64 p.ban, .int .i64 p.ways, .slice oa p.outs.length oc, .slice ia p.ins.length ic] 59)) (.cells #[.int .i64 0, .int .i64 0, .int .i64 0, .int .i64 0, .slice none 0 0, .slice none 0 0] 59)
    simpa only [World.size_alloc] using this
  have hB : Below w.heap.size w ((w.alloc (.cells #[.int .i64 p.space, .int .i64 p.need, .int .i64 p.ban, .int .i64 p.ways, .slice oa p.outs.length oc, .slice ia p.ins.length ic] 59)).alloc (.cells #[.int .i64 0, .int .i64 0, .int .i64 0, .int .i64 0, .slice none 0 0, .slice none 0 0] 59)) := bel
  have hS : w.heap.size + 2 ≤ ((w.alloc (.cells #[.int .i64 p.space, .int .i64 p.need, .int .i64 p.ban, .int .i64 p.ways, .slice oa p.outs.length oc, .slice ia p.ins.length ic] 59)).alloc (.cells #[.int .i64 0, .int .i64 0, .int .i64 0, .int .i64 0, .slice none 0 0, .slice none 0 0] 59)).heap.size := by simp only [World.size_alloc]; omega
  generalize ((w.alloc (.cells #[.int .i64 p.space, .int .i64 p.need, .int .i64 p.ban, .int .i64 p.ways, .slice oa p.outs.length oc, .slice ia p.ins.length ic] 59)).alloc (.cells #[.int .i64 0, .int .i64 0, .int .i64 0, .int .i64 0, .slice none 0 0, .slice none 0 0] 59)) = W at q0 q1 hB hS ⊢
  have HB := hid hB
  have Q0 := hid q0
  have Q1 := hid q1
  clear hB q0 q1
  refine (copiedRules_any p.outs oa oc W (rdRules.ext HB.out HB.out.size HO.out)).mono ?_
  rintro e w3 ⟨⟨a3, c3, rfl, _, hr3⟩, hb3⟩
  have HB3 := hid hb3
  have HR3 := hid hr3
  have hs3 := hb3.size
  have HQ3 := hid ((hb3.block w.heap.size (by omega)).trans Q0.out)
  have HRB3 := hid ((hb3.block (w.heap.size + 1) (by omega)).trans Q1.out)
  have j0 := blk_cell HQ3.out
  have j1 := blk_frozen HQ3.out
  clear hb3 hr3
  go_wp2_with fail
  have HX := hid (show Below w.heap.size w (w3.setCell ⟨w.heap.size, 4, none⟩ (.slice a3 p.outs.length c3)) from (HB.out.trans (HB3.out.mono HB.out.size)).setCell (Nat.le_refl _) _)
  refine (copiedRules_any p.ins ia ic _ (rdRules.ext HX.out HX.out.size HI.out)).mono ?_
  rintro e w4 ⟨⟨a4, c4, rfl, _, hr4⟩, hb4⟩
  have HB4 := hid hb4
  have HR4 := hid (show rdRules w4.heap.size (hide w4 (low w3.heap.size)) a4 p.ins by simpa only [World.size_setCell] using hr4)
  have hs4 : w3.heap.size ≤ w4.heap.size := by simpa only [World.size_setCell] using hb4.size
  have n4 := (hb4.block w.heap.size (by rw [World.size_setCell]; omega)).trans (set_blk HQ3.out 4 _)
  have l0 := blk_cell n4
  have l1 := blk_frozen n4
  have nr := (hb4.block (w.heap.size + 1) (by rw [World.size_setCell]; omega)).trans ((Below.heap_setCell _ _ _ _ (by show w.heap.size + 1 ≠ w.heap.size; omega)).trans HRB3.out)
  have l2 := blk_cell nr
  have l3 := blk_frozen nr
  clear hb4 hr4 n4 nr j0 j1
  go_wp2
  refine bodyPost_ret (v := .agg #[.int .i64 p.space, .int .i64 p.need, .int .i64 p.ban, .int .i64 p.ways, .slice a3 p.outs.length c3, .slice a4 p.ins.length c4]) (by simp [results, Tryz.results109, go_sem, l2]) rfl ⟨⟨a3, c3, a4, c4, rfl, ?_, ?_⟩, ?_⟩
  · refine rdRules.sub (Sub.trans ?_ (Sub.low (m := W.heap.size) (by omega))) (by simpa using hs4) HR3.out
    iterate 7 refine Sub.trans ?_ (Sub.set _ _ (by simp only [low, decide_eq_true_eq]; omega))
    exact (Sub.set _ _ (by simp only [low, decide_eq_true_eq]; omega)).trans (Sub.grow HB4.out)
  · refine rdRules.sub (Sub.trans ?_ (Sub.low (m := w3.heap.size) (by omega))) (by simp) HR4.out
    iterate 7 refine Sub.trans ?_ (Sub.set _ _ (by simp only [low, decide_eq_true_eq]; omega))
    exact Sub.refl _
  · iterate 7 refine Below.setCell ?_ (by simp) _
    exact HX.out.trans (HB4.out.mono HX.out.size)
end Go.Proofs.YtmkjlhplgcifiaaGreat
