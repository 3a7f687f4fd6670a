/-
  palisadekeep: rules, walked: its list is owned.
-/
import Derived.Test.YtmkjlhplgcifiaaGreatJ26
namespace Go.Proofs.YtmkjlhplgcifiaaGreat
open Go.ChangeShapes Go.WideShapes Go.ChangeAt Go.RowKit
attribute [local simp] World.cell?_grow
attribute [local go_sem] World.cell?_grow
attribute [local simp] World.cell?_alloc_there
attribute [local go_sem] World.cell?_alloc_there
attribute [local go_sem] eqg_blk std_blk eqg_pod std_pod eqg_sel std_sel eqg_prt std_prt
attribute [local go_sem ↓] eql_blk eql_sel neq_sel eql_prt eql_pod
attribute [local go_sem ↓] met_in1 met_in2 met_re1 met_re2
attribute [local go_sem ↓] met_has1 met_has2
attribute [local go_sem ↓] met_bl1 met_bl2
set_option linter.unusedVariables false
set_option linter.unusedSimpArgs false
/-- v is a list of rules of a base's own -/
def RulUp (base : Nat) (w : World) (v : Value) (l : List DRule) : Prop := ∃ xs : List XRule, xs.map (·.d) = l ∧ UpRules base w v xs
set_option maxRecDepth 100000 in
set_option maxHeartbeats 8000000 in
theorem mkRules_up (l : List DRule) (la : Option Addr) (lc : Nat) (w : World) (hl : rdRules w.heap.size w la l) (hi : ∀ r ∈ l, iRule r) :
    Calls Tryz.prog 23 #[.slice la l.length lc] w
      fun e w' => (∃ a c, e = .returned (.slice a (mkRules l).length c) ∧ (mkRules l).length ≤ c ∧ rdRules w'.heap.size (hide w' (low w.heap.size)) a (mkRules l) ∧ RulUp w.heap.size w' (.slice a (mkRules l).length c) (mkRules l)) ∧ Below w.heap.size w w' := by
  have HL := hid hl
  have HI := hid hi
  have hlen := hl.1
  clear hl hi
  obtain ⟨ip0, hip, ipz0, ipz1, ipz2⟩ := info_parts info_peer
  obtain ⟨ib0, hib, ibz0, ibz1, ibz2⟩ := info_parts info_blk
  obtain ⟨iq0, hiq, iqz0, iqz1, iqz2⟩ := info_parts info_port
  obtain ⟨ir0, hir, irz0, irz1, irz2⟩ := info_parts info_rule
  go_enter Tryz.func23, Tryz.ntmps23
  go_wp2
  go_loopw [3, 4] (fun v i wr => ∃ (k : Nat) (xs : List XRule), k ≤ (l.take 2).length ∧ i = .int .i64 k ∧ xs.map (·.d) = ((l.take 2).take k).map mkRule ∧ UpRules w.heap.size wr v xs ∧ Below w.heap.size w wr) (fun _ i _ => (l.take 2).length - (intOf i).toNat)
  case atStart => exact ⟨0, [], Nat.zero_le _, rfl, rfl, Up.nil _ _, Below.refl _ _⟩
  case round =>
    obtain ⟨k, xs, hk, rfl, hxs, hup, hbw⟩ := hrel
    obtain ⟨kv, hkv⟩ : ∃ v, v = u3 := ⟨_, rfl⟩
    obtain ⟨wa, hwa⟩ : ∃ wa, wa = wr := ⟨_, rfl⟩
    subst hkv hwa
    have HXS := hid hxs
    have hxl : xs.length ≤ 2 := by have h := congrArg List.length hxs; simp at h; omega
    have HU := hid hup
    have HB := hid hbw
    have hwa := hbw.size
    clear hxs hup
    by_cases hlt : k < (l.take 2).length
    · obtain ⟨h1, h2, h3⟩ := take_lt hlt
      obtain ⟨r, hrk⟩ : ∃ r, l[k]? = some r := ⟨l[k], by simp [h1]⟩
      have HRK := hid hrk
      have HRK2 := hid (h3.trans hrk)
      obtain ⟨b, off, rfl, hb, ⟨pa, pc, c0, hrp⟩, qa, qc, c1, hrq⟩ := HL.out.2 k r hrk
      have HRP := hid hrp
      have HRQ := hid hrq
      have HIR := hid (HI.out r (List.mem_of_getElem? hrk))
      have d0 := cell_to c0 hbw
      have d1 := cell_to c1 hbw
      have z1 : (k : Int) < (l.length : Int) := by omega
      have z2 : (k : Int) < 2 := by omega
      have hpl := hrp.1
      have hql := hrq.1
      clear hrk hrp hrq c0 c1 h3
      go_upto_block 2 with fail
      have e0 := cell_past (o := .cells #[.slice none 0 0, .slice none 0 0] 64) d0
      have e1 := cell_past (o := .cells #[.slice none 0 0, .slice none 0 0] 64) d1
      have hW2 : (wa.alloc (.cells #[.slice none 0 0, .slice none 0 0] 64)).heap.size = wa.heap.size + 1 := World.size_alloc _ _
      have hr2 : (wa.alloc (.cells #[.slice none 0 0, .slice none 0 0] 64)).heap[wa.heap.size]? = some (.cells #[.slice none 0 0, .slice none 0 0] 64 (0, 0)) := new_heap _ _
      have hB2 : Below wa.heap.size wa (wa.alloc (.cells #[.slice none 0 0, .slice none 0 0] 64)) := (Below.refl _ _).alloc (Nat.le_refl _) _
      generalize wa.alloc (.cells #[.slice none 0 0, .slice none 0 0] 64) = W2 at e0 e1 hW2 hr2 hB2 ⊢
      have HR2 := hid hr2
      have HB2 := hid hB2
      clear d0 d1 hr2 hB2
      go_cut [] from 26 to 97 (fun wx => ∃ (v : Value) (ys : List XPeer), ys.map (·.d) = (r.peers.take 2).map mkPeer ∧ wx.heap[wa.heap.size]? = some (.cells #[v, .slice none 0 0] 64 (0, 0)) ∧ UpPeers W2.heap.size wx v ys ∧ W2.grownBy wx (some wa.heap.size))
      case first =>
        go_wp2_with fail
        go_loopw [6] (fun i wr => ∃ (j : Nat) (v : Value) (ys : List XPeer), j ≤ (r.peers.take 2).length ∧ i = .int .i64 j ∧ ys.map (·.d) = ((r.peers.take 2).take j).map mkPeer ∧ wr.heap[wa.heap.size]? = some (.cells #[v, .slice none 0 0] 64 (0, 0)) ∧ UpPeers W2.heap.size wr v ys ∧ W2.grownBy wr (some wa.heap.size)) (fun i _ => (r.peers.take 2).length - (intOf i).toNat)
        case atStart => exact ⟨0, .slice none 0 0, [], Nat.zero_le _, rfl, rfl, HR2.out, Up.nil _ _, gb_refl _ _⟩
        case round =>
          obtain ⟨j, v, ys, hj, rfl, hys, hrb, hup2, hg2⟩ := hrel
          obtain ⟨wb, hwb⟩ : ∃ wb, wb = wr := ⟨_, rfl⟩
          subst hwb
          have HYS := hid hys
          have HRB := hid hrb
          have HU2 := hid hup2
          have HG2 := hid hg2
          have hsb := hg2.size
          have hne : b ≠ wa.heap.size := by omega
          have f0 : wb.cell? ⟨b, off + k * 2, none⟩ = some (.slice pa r.peers.length pc) := hg2.cell e0 (fun e => by first | exact hne (Option.some.inj e) | exact hne (Option.some.inj e).symm)
          have f1 : wb.cell? ⟨b, off + k * 2 + 1, none⟩ = some (.slice qa r.ports.length qc) := hg2.cell e1 (fun e => by first | exact hne (Option.some.inj e) | exact hne (Option.some.inj e).symm)
          have g0 : wb.cell? ⟨wa.heap.size, 0, none⟩ = some v := (blk_cell hrb 0).trans rfl
          have g1 : wb.cell? ⟨wa.heap.size, 1, none⟩ = some (.slice none 0 0) := (blk_cell hrb 1).trans rfl
          have gf := blk_frozen hrb
          have HBw := hid (show Below w.heap.size w wb from HB.out.trans ((HB2.out.mono hwa).trans (gb_low hg2 hwa (by omega))))
          clear hys hrb hup2 hg2
          by_cases hltj : j < (r.peers.take 2).length
          · obtain ⟨k1, k2, k3⟩ := take_lt hltj
            obtain ⟨p, hpj⟩ : ∃ p, r.peers[j]? = some p := ⟨r.peers[j], by simp [k1]⟩
            have HPJ := hid hpj
            have HPJ2 := hid (k3.trans hpj)
            obtain ⟨pb, po, rfl, hpb, p0, p1, p2, p3, p4, p5, ea, ec, p6, hre⟩ := HRP.out.2 j p hpj
            have HRE := hid hre
            have hipp := HIR.out.1 p (List.mem_of_getElem? hpj)
            have HIP := hid hipp
            have hel := hre.1
            obtain ⟨i0, i1, i2, i3, i4, i5, i6⟩ := hipp
            have z3 : (j : Int) < (r.peers.length : Int) := by omega
            have z4 : (j : Int) < 2 := by omega
            have q0 := cell_to p0 HBw.out
            have q1 := cell_to p1 HBw.out
            have q2 := cell_to p2 HBw.out
            have q3 := cell_to p3 HBw.out
            have q4 := cell_to p4 HBw.out
            have q5 := cell_to p5 HBw.out
            have q6 := cell_to p6 HBw.out
            clear hpj hre p0 p1 p2 p3 p4 p5 p6 k3 i6
            by_cases hkind : pk p.kind 2 = 1
            · have hkb : (pk p.kind 2 == 1) = true := by simp [hkind]
              go_wp2_with (first
                | (go_at_call 22; refine (pick_any _ _ _ (by assumption) (by decide) (by decide)).mono ?_; rintro e w' ⟨rfl, rfl⟩)
                | (go_at_call 41; refine (mkSel_any _ _ _ (by assumption) (by assumption)).mono ?_; rintro e w3 ⟨rfl, hb3⟩))
              have hXB : Below wb.heap.size wb (w3.alloc (.cells #[.int .i64 (pk p.need 256), .int .i64 (pk p.ban 256)] 56)) := (by repeat (first | exact Below.refl _ _ | assumption | apply Ext.alloc | apply Ext.drewN | apply Ext.drew | refine Ext.trans ?_ (by assumption)))
              have x0 : (w3.alloc (.cells #[.int .i64 (pk p.need 256), .int .i64 (pk p.ban 256)] 56)).cell? ⟨w3.heap.size, 0, none⟩ = some (.int .i64 (pk p.need 256)) := by simp [go_sem]
              have x1 : (w3.alloc (.cells #[.int .i64 (pk p.need 256), .int .i64 (pk p.ban 256)] 56)).cell? ⟨w3.heap.size, 1, none⟩ = some (.int .i64 (pk p.ban 256)) := by simp [go_sem]
              have x2 : (w3.alloc (.cells #[.int .i64 (pk p.need 256), .int .i64 (pk p.ban 256)] 56)).cell? ⟨wb.heap.size, 3, none⟩ = some (.int .i64 p.spaces) := cell_past (cell_to (by simp [go_sem]) hb3)
              have hXs : (w3.alloc (.cells #[.int .i64 (pk p.need 256), .int .i64 (pk p.ban 256)] 56)).heap.size = w3.heap.size + 1 := World.size_alloc _ _
              have hs3 := hb3.size
              simp only [World.size_alloc] at hs3
              have hXs : w3.heap.size + 1 ≤ (w3.alloc (.cells #[.int .i64 (pk p.need 256), .int .i64 (pk p.ban 256)] 56)).heap.size := Nat.le_of_eq hXs.symm
              clear hb3
              generalize w3.alloc (.cells #[.int .i64 (pk p.need 256), .int .i64 (pk p.ban 256)] 56) = X at hXB x0 x1 x2 hXs ⊢
              have x3 := cell_to g0 hXB
              have HXR := hid (show X.heap[wa.heap.size]? = some (.cells #[v, .slice none 0 0] 64 (0, 0)) from (hXB.block _ (by omega)).trans HRB.out)
              have xf := blk_frozen HXR.out
              have HUX := hid (HU2.out.grow NPeer.mono (show Below wb.heap.size wb X.drew from hXB.drew))
              have HGX := hid (gb_below HG2.out hXB)
              have HXB := hid hXB
              have hYl : ys.length ≤ 2 := by have h := congrArg List.length HYS.out; simp at h; omega
              clear g0 g1 gf q0 q1 q2 q3 q4 q5 q6 f0 f1 hXB
              have hvb : ∀ g, v.ownBlock = some g → W2.heap.size ≤ g := fun g hg => (HUX.out.lt g hg).1
              have HVB := hid hvb
              have HT6 := hid (show ∀ (o : Obj) (w6 : World), (X.drew.alloc o).grownBy w6 v.ownBlock → w6.heap[wa.heap.size]? = some (.cells #[v, .slice none 0 0] 64 (0, 0)) from fun o w6 hg => (hg.block wa.heap.size (by rw [World.size_alloc]; show wa.heap.size < X.heap.size + 1; omega) (fun e => by have := hvb _ e.symm; omega)).trans ((Below.heap_alloc _ _ _ (show wa.heap.size < X.drew.heap.size by show wa.heap.size < X.heap.size; omega)).trans HXR.out))
              have hvl : ∀ g, v.ownBlock = some g → g < wb.heap.size := fun g hg => (HU2.out.lt g hg).2
              have HS6 := hid (show ∀ (o : Obj) (w6 : World), (X.drew.alloc o).grownBy w6 v.ownBlock → w6.cell? ⟨w3.heap.size, 0, none⟩ = some (.int .i64 (pk p.need 256)) ∧ w6.cell? ⟨w3.heap.size, 1, none⟩ = some (.int .i64 (pk p.ban 256)) ∧ w6.cell? ⟨wb.heap.size, 3, none⟩ = some (.int .i64 p.spaces) from fun o w6 hg =>
                ⟨hg.cell (cell_past (w := X.drew) x0) (fun e => by have := hvl w3.heap.size e.symm; omega), hg.cell (cell_past (w := X.drew) x1) (fun e => by have := hvl w3.heap.size e.symm; omega), hg.cell (cell_past (w := X.drew) x2) (fun e => by have := hvl wb.heap.size e.symm; omega)⟩)
              clear hvb hvl
              go_cut [] from 55 to 64 (fun wx => ∃ v', wx.heap[wa.heap.size]? = some (.cells #[v', .slice none 0 0] 64 (0, 0)) ∧ UpPeers W2.heap.size wx v' (ys ++ [⟨mkPeer p, none, 0⟩]) ∧ W2.grownBy wx (some wa.heap.size))
              case first =>
                refine wp_region_held_tail (S := (fun w' => w'.cell? ⟨wa.heap.size, 0, none⟩ = some v ∧ w'.cell? ⟨w3.heap.size, 0, none⟩ = some (.int .i64 (pk p.need 256)) ∧ w'.cell? ⟨w3.heap.size, 1, none⟩ = some (.int .i64 (pk p.ban 256)) ∧ w'.cell? ⟨wb.heap.size, 3, none⟩ = some (.int .i64 p.spaces))) 9 (by kernel_rfl) (by kernel_rfl) ?_
                simp only [takes_9, drops_9]
                have hS0 : (fun w' => w'.cell? ⟨wa.heap.size, 0, none⟩ = some v ∧ w'.cell? ⟨w3.heap.size, 0, none⟩ = some (.int .i64 (pk p.need 256)) ∧ w'.cell? ⟨w3.heap.size, 1, none⟩ = some (.int .i64 (pk p.ban 256)) ∧ w'.cell? ⟨wb.heap.size, 3, none⟩ = some (.int .i64 p.spaces)) X.drew := ⟨x3, x0, x1, x2⟩
                refine htake_0 (.pointer (some ⟨wa.heap.size, 0, none⟩)) (by kernel_rfl) (by kernel_rfl) (by kernel_rfl) rfl (fun _ _ _ h => h) (fun w' hSw => by (obtain ⟨s0, s1, s2, s3⟩ := hSw; go_simp)) hS0 ?_
                try simp only [Act.put, List.setIfInBounds_toArray, List.set_cons_zero, List.set_cons_succ]
                refine htake_1 (v) (by kernel_rfl) (by kernel_rfl) (by kernel_rfl) rfl (fun _ _ _ h => h) (fun w' hSw => by (obtain ⟨s0, s1, s2, s3⟩ := hSw; go_simp)) hS0 ?_
                try simp only [Act.put, List.setIfInBounds_toArray, List.set_cons_zero, List.set_cons_succ]
                refine htake_2 (.agg #[.int .i64 (pk p.need 256), .int .i64 (pk p.ban 256)]) (by kernel_rfl) (by kernel_rfl) (by kernel_rfl) rfl (fun _ _ _ h => h) (fun w' hSw => by (obtain ⟨s0, s1, s2, s3⟩ := hSw; go_simp)) hS0 ?_
                try simp only [Act.put, List.setIfInBounds_toArray, List.set_cons_zero, List.set_cons_succ]
                refine htake_3 (.pointer (some ⟨wb.heap.size, 3, none⟩)) (by kernel_rfl) (by kernel_rfl) (by kernel_rfl) rfl (fun _ _ _ h => h) (fun w' hSw => by (obtain ⟨s0, s1, s2, s3⟩ := hSw; go_simp)) hS0 ?_
                try simp only [Act.put, List.setIfInBounds_toArray, List.set_cons_zero, List.set_cons_succ]
                refine htake_4 (.int .i64 p.spaces) (by kernel_rfl) (by kernel_rfl) (by kernel_rfl) rfl (fun _ _ _ h => h) (fun w' hSw => by (obtain ⟨s0, s1, s2, s3⟩ := hSw; go_simp)) hS0 ?_
                try simp only [Act.put, List.setIfInBounds_toArray, List.set_cons_zero, List.set_cons_succ]
                refine hone_5 (by kernel_rfl) rfl (fun K hK => ?_)
                go_simp
                go_at_call 22
                refine (pick_any _ _ _ (by assumption) (by decide) (by decide)).mono ?_
                rintro e w' ⟨rfl, rfl⟩
                refine hK _ _ hS0 ?_
                try simp only [Act.put, List.setIfInBounds_toArray, List.set_cons_zero, List.set_cons_succ]
                refine htake_6 (.agg #[.int .i64 1, .int .i64 (pk p.need 256), .int .i64 (pk p.ban 256), .int .i64 (pk p.spaces 16), .int .i64 0, .int .i64 0, .slice none 0 0]) (by kernel_rfl) (by kernel_rfl) (by kernel_rfl) rfl (fun _ _ _ h => h) (fun w' hSw => by (obtain ⟨s0, s1, s2, s3⟩ := hSw; go_simp)) hS0 ?_
                try simp only [Act.put, List.setIfInBounds_toArray, List.set_cons_zero, List.set_cons_succ]
                refine hone_7 (by kernel_rfl) rfl (fun K hK => ?_)
                go_simp
                have HUA := hid (HUX.out.grow NPeer.mono (show Below X.drew.heap.size X.drew (X.alloc (.cells #[.int .i64 1, .int .i64 (pk p.need 256), .int .i64 (pk p.ban 256), .int .i64 (pk p.spaces 16), .int .i64 0, .int .i64 0, .slice none 0 0] 69)).drew from (Below.refl X.drew.heap.size X.drew).alloc (Nat.le_refl _) _))
                refine hK _ _ ⟨cell_past (w := X) x3, cell_past (w := X) x0, cell_past (w := X) x1, cell_past (w := X) x2⟩ ?_
                try simp only [Act.put, List.setIfInBounds_toArray, List.set_cons_zero, List.set_cons_succ]
                refine hone_8 (by kernel_rfl) rfl (fun K hK => ?_)
                refine wp_append_at _ (.tmp 56) (.tmp 62) 61 rfl W2.heap.size 69 ip0 _ 7 72 Tryz.underlying61 hip ipz0 ipz1 ipz2 rfl (by decide) v _ _ rfl HUA.out.1 ⟨X.heap.size, 0, none⟩ 1 1 (encXPeer ⟨⟨1, pk p.need 256, pk p.ban 256, pk p.spaces 16, 0, 0, []⟩, none, 0⟩) rfl rfl (cell_new_list X.drew (encXPeer ⟨⟨1, pk p.need 256, pk p.ban 256, pk p.spaces 16, 0, 0, []⟩, none, 0⟩) _) (by intro u hu; simp only [encXPeer, List.mem_cons, List.not_mem_nil, or_false] at hu; rcases hu with rfl | rfl | rfl | rfl | rfl | rfl | rfl <;> rfl) (by unfold maxLen; omega) (by omega) (by show W2.heap.size ≤ (X.alloc _).heap.size; rw [World.size_alloc]; omega) ?_
                intro v' w6 hown6 hg6 hat6
                obtain ⟨a6, c6, rfl, _, _⟩ := own_slice hown6
                have HO6 := hid hown6
                have HG6 := hid hg6
                have HA6 := hid hat6
                have t6 := HT6.out _ w6 hg6
                have hS6 := HS6.out _ w6 hg6
                have t0 : w6.cell? ⟨wa.heap.size, 0, none⟩ = some v := (blk_cell t6 0).trans rfl
                have tf := blk_frozen t6
                have HT := hid t6
                clear hown6 hg6 hat6 t6
                refine hK _ _ ⟨t0, hS6⟩ ?_
                refine wpAnyH_done (by kernel_rfl) ?_ _
                show wpList _ _ _ _ _ _
                try simp only [Act.put, List.setIfInBounds_toArray, List.set_cons_zero, List.set_cons_succ]
                clear hK hS0 hS6
                go_wp2
                go_meet
                have hmk : mkPeer p = ⟨1, pk p.need 256, pk p.ban 256, pk p.spaces 16, 0, 0, []⟩ := by rw [mkPeer, if_pos hkind]
                rw [hmk]
                refine ⟨_, (set_blk HT.out 0 _).trans rfl, Up.set NPeer.mono (Up.app NPeer.mono (m := X.heap.size) HUA.out (by omega) (fun g hg => (HUX.out.lt g hg).2) (npeer_nil _ _ _ _ _ _ _ _ _) HO6.out HG6.out HA6.out) _ _ (by show wa.heap.size < W2.heap.size; omega), gb_set (gb_row (gb_below HGX.out (show Below X.heap.size X (X.alloc _).drew from ((Below.refl _ X).alloc (Nat.le_refl _) _).drew)) HG6.out HVB.out) 0 _⟩
              case rest =>
                obtain ⟨v', hr', hu', hg'⟩ := hcut
                have HR' := hid hr'
                have HU' := hid hu'
                have HG' := hid hg'
                clear hr' hu' hg'
                go_wp2
                refine ⟨⟨j + 1, v', ys ++ [⟨mkPeer p, none, 0⟩], by omega, by go_num, ?_, HR'.out, HU'.out, HG'.out⟩, by simp [intOf]; omega⟩
                rw [List.map_append, HYS.out]; exact snoc_take mkPeer HPJ2.out
            · have hkb : (pk p.kind 2 == 1) = false := by simp [hkind]
              go_wp2_with (first
                | (go_at_call 22; refine (pick_any _ _ _ (by assumption) (by decide) (by decide)).mono ?_; rintro e w' ⟨rfl, rfl⟩)
                | (go_at_call 42; refine (mkBlk_any ⟨p.base, p.bits⟩ _ (by assumption) (by assumption)).mono ?_; rintro e w3 ⟨rfl, hb3⟩))
              have hXB : Below wb.heap.size wb (w3.alloc (.cells #[.int .i64 2, .int .i64 0, .int .i64 0, .int .i64 0, .int .i64 (mkBlk ⟨p.base, p.bits⟩).base, .int .i64 (mkBlk ⟨p.base, p.bits⟩).bits, .slice none 0 0] 69)) := (by repeat (first | exact Below.refl _ _ | assumption | apply Ext.alloc | apply Ext.drewN | apply Ext.drew | refine Ext.trans ?_ (by assumption)))
              have x6 : (w3.alloc (.cells #[.int .i64 2, .int .i64 0, .int .i64 0, .int .i64 0, .int .i64 (mkBlk ⟨p.base, p.bits⟩).base, .int .i64 (mkBlk ⟨p.base, p.bits⟩).bits, .slice none 0 0] 69)).cell? ⟨wb.heap.size, 6, none⟩ = some (.slice ea p.exc.length ec) := cell_past (cell_to (by simp [go_sem]) hb3)
              have hXs : w3.heap.size + 1 ≤ (w3.alloc (.cells #[.int .i64 2, .int .i64 0, .int .i64 0, .int .i64 0, .int .i64 (mkBlk ⟨p.base, p.bits⟩).base, .int .i64 (mkBlk ⟨p.base, p.bits⟩).bits, .slice none 0 0] 69)).heap.size := Nat.le_of_eq (World.size_alloc _ _).symm
              have hXq : (w3.alloc (.cells #[.int .i64 2, .int .i64 0, .int .i64 0, .int .i64 0, .int .i64 (mkBlk ⟨p.base, p.bits⟩).base, .int .i64 (mkBlk ⟨p.base, p.bits⟩).bits, .slice none 0 0] 69)).heap[w3.heap.size]? = some (.cells #[.int .i64 2, .int .i64 0, .int .i64 0, .int .i64 0, .int .i64 (mkBlk ⟨p.base, p.bits⟩).base, .int .i64 (mkBlk ⟨p.base, p.bits⟩).bits, .slice none 0 0] 69) := new_heap _ _
              have hs3 := hb3.size
              simp only [World.size_alloc] at hs3
              clear hb3
              generalize w3.alloc (.cells #[.int .i64 2, .int .i64 0, .int .i64 0, .int .i64 0, .int .i64 (mkBlk ⟨p.base, p.bits⟩).base, .int .i64 (mkBlk ⟨p.base, p.bits⟩).bits, .slice none 0 0] 69) = X at hXB x6 hXs hXq ⊢
              have HXQ := hid hXq
              have HXB := hid hXB
              have HGX := hid (gb_below HG2.out hXB)
              have hYl : ys.length ≤ 2 := by have h := congrArg List.length HYS.out; simp at h; omega
              have hzs := hXB.size
              clear g0 g1 gf q0 q1 q2 q3 q4 q5 q6 f0 f1 hXB hXq
              go_loopw [10] (fun i wr => ∃ (m : Nat) (v3 : Value) (bs : List DBlk), m ≤ (p.exc.take 2).length ∧ i = .int .i64 m ∧ bs = ((p.exc.take 2).take m).map mkBlk ∧ wr.heap[w3.heap.size]? = some (.cells #[.int .i64 2, .int .i64 0, .int .i64 0, .int .i64 0, .int .i64 (mkBlk ⟨p.base, p.bits⟩).base, .int .i64 (mkBlk ⟨p.base, p.bits⟩).bits, v3] 69 (0, 0)) ∧ UpBlks X.heap.size wr v3 bs ∧ X.grownBy wr (some w3.heap.size)) (fun i _ => (p.exc.take 2).length - (intOf i).toNat)
              case atStart => exact ⟨0, .slice none 0 0, [], Nat.zero_le _, rfl, rfl, HXQ.out, Up.nil _ _, gb_refl _ _⟩
              case round =>
                obtain ⟨m, v3, bs, hm, rfl, hbs, hqb, hup3, hg3⟩ := hrel
                have HBS := hid hbs
                have hml : bs.length ≤ 2 := by rw [hbs]; simp; omega
                clear hbs
                obtain ⟨wd, hwd⟩ : ∃ wd, wd = wr := ⟨_, rfl⟩
                subst hwd
                have HQB := hid hqb
                have HU3 := hid hup3
                have HG3 := hid hg3
                have hsd := hg3.size
                have y6 : wd.cell? ⟨wb.heap.size, 6, none⟩ = some (.slice ea p.exc.length ec) := hg3.cell x6 (fun e => by have := Option.some.inj e; simp only at this; omega)
                have r6 : wd.cell? ⟨w3.heap.size, 6, none⟩ = some v3 := (blk_cell hqb 6).trans rfl
                have r0 : wd.cell? ⟨w3.heap.size, 0, none⟩ = some (.int .i64 2) := (blk_cell hqb 0).trans rfl
                have r1 : wd.cell? ⟨w3.heap.size, 1, none⟩ = some (.int .i64 0) := (blk_cell hqb 1).trans rfl
                have r2 : wd.cell? ⟨w3.heap.size, 2, none⟩ = some (.int .i64 0) := (blk_cell hqb 2).trans rfl
                have r3 : wd.cell? ⟨w3.heap.size, 3, none⟩ = some (.int .i64 0) := (blk_cell hqb 3).trans rfl
                have r4 : wd.cell? ⟨w3.heap.size, 4, none⟩ = some (.int .i64 (mkBlk ⟨p.base, p.bits⟩).base) := (blk_cell hqb 4).trans rfl
                have r5 : wd.cell? ⟨w3.heap.size, 5, none⟩ = some (.int .i64 (mkBlk ⟨p.base, p.bits⟩).bits) := (blk_cell hqb 5).trans rfl
                have rf := blk_frozen hqb
                have HBd := hid (show Below wb.heap.size wb wd from HXB.out.trans (gb_low hg3 (by omega) (by omega)))
                have HBdw := hid (show Below w.heap.size w wd from HBw.out.trans (HBd.out.mono (HBw.out.size)))
                clear hqb hup3 hg3
                by_cases hltm : m < (p.exc.take 2).length
                · obtain ⟨m1, m2, m3⟩ := take_lt hltm
                  obtain ⟨x, hxm⟩ : ∃ x, p.exc[m]? = some x := ⟨p.exc[m], by simp [m1]⟩
                  have HXM := hid (m3.trans hxm)
                  obtain ⟨eb, eo, rfl, heb, c0, c1⟩ := HRE.out.2 m x hxm
                  have s0 := cell_to c0 HBdw.out
                  have s1 := cell_to c1 HBdw.out
                  obtain ⟨j0, j1⟩ := HIP.out.2.2.2.2.2.2 x (List.mem_of_getElem? hxm)
                  have z5 : (m : Int) < (p.exc.length : Int) := by omega
                  have z6 : (m : Int) < 2 := by omega
                  have hvb3 : ∀ g, v3.ownBlock = some g → X.heap.size ≤ g := fun g hg => (HU3.out.lt g hg).1
                  have hvl3 : ∀ g, v3.ownBlock = some g → g < wd.heap.size := fun g hg => (HU3.out.lt g hg).2
                  have HVB3 := hid hvb3
                  have HVL3 := hid hvl3
                  clear hxm c0 c1 m3 hvb3 hvl3
                  go_wp2_with (first
                    | (go_at_call 42; refine (mkBlk_any ⟨x.base, x.bits⟩ _ j0 j1).mono ?_; rintro e w5 ⟨rfl, hb5⟩; have HB5 := hid hb5; have hs5 := hb5.size; have t6 := cell_to r6 hb5; have HQ5 := hid (show w5.heap[w3.heap.size]? = _ from (hb5.block _ (by omega)).trans HQB.out); have HU5 := hid (HU3.out.grow NNo.mono hb5); clear hb5)
                    | (at_builtin; refine wpList_append_own_at _ rfl _ _ 67 rfl X.heap.size 47 ib0 _ 2 16 Tryz.underlying67 hib ibz0 ibz1 ibz2 rfl (by decide) _ _ _ rfl ((HU5.out.1.alloc (.cells #[.int .i64 (mkBlk ⟨x.base, x.bits⟩).base, .int .i64 (mkBlk ⟨x.base, x.bits⟩).bits] 47)).alloc (.cells #[.int .i64 (mkBlk ⟨x.base, x.bits⟩).base, .int .i64 (mkBlk ⟨x.base, x.bits⟩).bits] 47)) ⟨w5.heap.size + 1, 0, none⟩ 1 1 (encBlk (mkBlk ⟨x.base, x.bits⟩)) rfl rfl (cell_new_list2 w5 _ (encBlk (mkBlk ⟨x.base, x.bits⟩)) _) (by intro u hu; simp only [encBlk, List.mem_cons, List.not_mem_nil, or_false] at hu; rcases hu with rfl | rfl <;> rfl) (by unfold maxLen; omega) (by omega) (by simp only [World.size_alloc]; omega) ?_; intro v' w8 hown8 hg8 hnil8 hat8; obtain ⟨a8, c8, rfl, _, _⟩ := own_slice hown8; have t8 : w8.heap[w3.heap.size]? = some (.cells #[.int .i64 2, .int .i64 0, .int .i64 0, .int .i64 0, .int .i64 (mkBlk ⟨p.base, p.bits⟩).base, .int .i64 (mkBlk ⟨p.base, p.bits⟩).bits, v3] 69 (0, 0)) := (hg8.block w3.heap.size (by simp only [World.size_alloc]; omega) (fun e => by have := HVB3.out _ e.symm; omega)).trans ((Below.heap_alloc _ _ _ (by rw [World.size_alloc]; omega)).trans ((Below.heap_alloc _ _ _ (by omega)).trans HQ5.out)); have k6 : w8.cell? ⟨w3.heap.size, 6, none⟩ = some v3 := (blk_cell t8 6).trans rfl; have kf := blk_frozen t8; have HT8 := hid t8; have HO8 := hid hown8; have HG8 := hid hg8; have HA8 := hid hat8; clear hown8 hg8 hnil8 hat8 t8))
                  refine ⟨⟨m + 1, _, bs ++ [mkBlk x], by omega, by go_num, by rw [HBS.out]; exact snoc_take mkBlk HXM.out, (set_blk HT8.out 6 _).trans rfl, ?_, gb_set (gb_row (gb_below HG3.out (show Below wd.heap.size wd ((w5.alloc (.cells #[.int .i64 (mkBlk ⟨x.base, x.bits⟩).base, .int .i64 (mkBlk ⟨x.base, x.bits⟩).bits] 47)).alloc (.cells #[.int .i64 (mkBlk ⟨x.base, x.bits⟩).base, .int .i64 (mkBlk ⟨x.base, x.bits⟩).bits] 47)) from (HB5.out.alloc (by omega) _).alloc (by rw [World.size_alloc]; omega) _)) HG8.out HVB3.out) 6 _⟩, by simp [intOf]; omega⟩
                  exact Up.set NNo.mono (Up.app NNo.mono (m := w5.heap.size) (HU5.out.grow NNo.mono (show Below w5.heap.size w5 ((w5.alloc (.cells #[.int .i64 (mkBlk ⟨x.base, x.bits⟩).base, .int .i64 (mkBlk ⟨x.base, x.bits⟩).bits] 47)).alloc (.cells #[.int .i64 (mkBlk ⟨x.base, x.bits⟩).base, .int .i64 (mkBlk ⟨x.base, x.bits⟩).bits] 47)) from ((Below.refl _ w5).alloc (Nat.le_refl _) _).alloc (by rw [World.size_alloc]; omega) _)) (by omega) (fun g hg => by have := HVL3.out g hg; omega) trivial HO8.out HG8.out HA8.out) ⟨w3.heap.size, 6, none⟩ _ (by show w3.heap.size < X.heap.size; omega)
                · have hend := take_ge hltm
                  have htk : (p.exc.take 2).take m = p.exc.take 2 := List.take_of_length_le (by omega)
                  have HBX := hid (show bs = (p.exc.take 2).map mkBlk by rw [HBS.out, htk])
                  obtain ⟨a3, c3, rfl, hc3, hr3⟩ := upBlks_done HU3.out (by omega)
                  have HR3 := hid hr3
                  have HMK := hid (show mkPeer p = ⟨2, 0, 0, 0, (mkBlk ⟨p.base, p.bits⟩).base, (mkBlk ⟨p.base, p.bits⟩).bits, bs⟩ by rw [mkPeer, if_neg hkind, HBX.out])
                  have HUD := hid (HU2.out.grow NPeer.mono HBd.out)
                  have HVB := hid (show ∀ g, v.ownBlock = some g → W2.heap.size ≤ g from fun g hg => (HU2.out.lt g hg).1)
                  have HVL := hid (show ∀ g, v.ownBlock = some g → g < wb.heap.size from fun g hg => (HU2.out.lt g hg).2)
                  have HRBd := hid (show wd.heap[wa.heap.size]? = some (.cells #[v, .slice none 0 0] 64 (0, 0)) from (HBd.out.block _ (by omega)).trans HRB.out)
                  have g0 : wd.cell? ⟨wa.heap.size, 0, none⟩ = some v := (blk_cell HRBd.out 0).trans rfl
                  have HGX3 := hid (gb_below HG2.out HBd.out)
                  have hdl := HBd.out.size
                  clear hr3 htk
                  by_cases he1 : m < p.exc.length
                  · have z7 : (m : Int) < (p.exc.length : Int) := by omega
                    have z8 : ¬ (m : Int) < 2 := by omega
                    go_wp2_with (at_builtin; refine wpList_append_own_at _ rfl _ _ 61 rfl W2.heap.size 69 ip0 _ 7 72 Tryz.underlying61 hip ipz0 ipz1 ipz2 rfl (by decide) _ _ _ rfl (HUD.out.1.alloc (.cells #[.int .i64 2, .int .i64 0, .int .i64 0, .int .i64 0, .int .i64 (mkBlk ⟨p.base, p.bits⟩).base, .int .i64 (mkBlk ⟨p.base, p.bits⟩).bits, .slice a3 bs.length c3] 69)) ⟨wd.heap.size, 0, none⟩ 1 1 (encXPeer ⟨mkPeer p, a3, c3⟩) rfl (by rw [HMK.out]; rfl) (by rw [HMK.out]; exact cell_new_list wd (encXPeer ⟨⟨2, 0, 0, 0, (mkBlk ⟨p.base, p.bits⟩).base, (mkBlk ⟨p.base, p.bits⟩).bits, bs⟩, a3, c3⟩) _) (by rw [HMK.out]; intro u hu; simp only [encXPeer, List.mem_cons, List.not_mem_nil, or_false] at hu; rcases hu with rfl | rfl | rfl | rfl | rfl | rfl | rfl <;> rfl) (by unfold maxLen; omega) (by omega) (by rw [World.size_alloc]; omega) ?_; intro v' w8 hown8 hg8 hnil8 hat8; obtain ⟨a8, c8, rfl, _, _⟩ := own_slice hown8; have t8 : w8.heap[wa.heap.size]? = some (.cells #[v, .slice none 0 0] 64 (0, 0)) := (hg8.block wa.heap.size (by rw [World.size_alloc]; omega) (fun e => by have := HVB.out _ e.symm; omega)).trans ((Below.heap_alloc _ _ _ (by omega)).trans HRBd.out); have k6 : w8.cell? ⟨wa.heap.size, 0, none⟩ = some v := (blk_cell t8 0).trans rfl; have kf := blk_frozen t8; have HT8 := hid t8; have HO8 := hid hown8; have HG8 := hid hg8; have HA8 := hid hat8; clear hown8 hg8 hnil8 hat8 t8)
                    refine ⟨⟨j + 1, _, ys ++ [⟨mkPeer p, a3, c3⟩], by omega, by go_num, ?_, (set_blk HT8.out 0 _).trans rfl, ?_, gb_set (gb_row (gb_below HGX3.out (show Below wd.heap.size wd (wd.alloc (.cells #[.int .i64 2, .int .i64 0, .int .i64 0, .int .i64 0, .int .i64 (mkBlk ⟨p.base, p.bits⟩).base, .int .i64 (mkBlk ⟨p.base, p.bits⟩).bits, .slice a3 bs.length c3] 69)) from (Below.refl _ wd).alloc (Nat.le_refl _) _)) HG8.out HVB.out) 0 _⟩, by simp [intOf]; omega⟩
                    · rw [List.map_append, HYS.out]; exact snoc_take mkPeer HPJ2.out
                    · exact Up.set NPeer.mono (Up.app NPeer.mono (m := X.heap.size) (HUD.out.grow NPeer.mono (show Below wd.heap.size wd (wd.alloc (.cells #[.int .i64 2, .int .i64 0, .int .i64 0, .int .i64 0, .int .i64 (mkBlk ⟨p.base, p.bits⟩).base, .int .i64 (mkBlk ⟨p.base, p.bits⟩).bits, .slice a3 bs.length c3] 69)) from (Below.refl _ wd).alloc (Nat.le_refl _) _)) (by omega) (fun g hg => by have := HVL.out g hg; omega) (by rw [HMK.out]; exact rdBlks.sub (Sub.grow ((Below.refl _ wd).alloc (Nat.le_refl _) _)) (by rw [World.size_alloc]; omega) HR3.out) HO8.out HG8.out HA8.out) ⟨wa.heap.size, 0, none⟩ _ (by show wa.heap.size < W2.heap.size; omega)
                  · have z7 : ¬ (m : Int) < (p.exc.length : Int) := by omega
                    go_wp2_with (at_builtin; refine wpList_append_own_at _ rfl _ _ 61 rfl W2.heap.size 69 ip0 _ 7 72 Tryz.underlying61 hip ipz0 ipz1 ipz2 rfl (by decide) _ _ _ rfl (HUD.out.1.alloc (.cells #[.int .i64 2, .int .i64 0, .int .i64 0, .int .i64 0, .int .i64 (mkBlk ⟨p.base, p.bits⟩).base, .int .i64 (mkBlk ⟨p.base, p.bits⟩).bits, .slice a3 bs.length c3] 69)) ⟨wd.heap.size, 0, none⟩ 1 1 (encXPeer ⟨mkPeer p, a3, c3⟩) rfl (by rw [HMK.out]; rfl) (by rw [HMK.out]; exact cell_new_list wd (encXPeer ⟨⟨2, 0, 0, 0, (mkBlk ⟨p.base, p.bits⟩).base, (mkBlk ⟨p.base, p.bits⟩).bits, bs⟩, a3, c3⟩) _) (by rw [HMK.out]; intro u hu; simp only [encXPeer, List.mem_cons, List.not_mem_nil, or_false] at hu; rcases hu with rfl | rfl | rfl | rfl | rfl | rfl | rfl <;> rfl) (by unfold maxLen; omega) (by omega) (by rw [World.size_alloc]; omega) ?_; intro v' w8 hown8 hg8 hnil8 hat8; obtain ⟨a8, c8, rfl, _, _⟩ := own_slice hown8; have t8 : w8.heap[wa.heap.size]? = some (.cells #[v, .slice none 0 0] 64 (0, 0)) := (hg8.block wa.heap.size (by rw [World.size_alloc]; omega) (fun e => by have := HVB.out _ e.symm; omega)).trans ((Below.heap_alloc _ _ _ (by omega)).trans HRBd.out); have k6 : w8.cell? ⟨wa.heap.size, 0, none⟩ = some v := (blk_cell t8 0).trans rfl; have kf := blk_frozen t8; have HT8 := hid t8; have HO8 := hid hown8; have HG8 := hid hg8; have HA8 := hid hat8; clear hown8 hg8 hnil8 hat8 t8)
                    refine ⟨⟨j + 1, _, ys ++ [⟨mkPeer p, a3, c3⟩], by omega, by go_num, ?_, (set_blk HT8.out 0 _).trans rfl, ?_, gb_set (gb_row (gb_below HGX3.out (show Below wd.heap.size wd (wd.alloc (.cells #[.int .i64 2, .int .i64 0, .int .i64 0, .int .i64 0, .int .i64 (mkBlk ⟨p.base, p.bits⟩).base, .int .i64 (mkBlk ⟨p.base, p.bits⟩).bits, .slice a3 bs.length c3] 69)) from (Below.refl _ wd).alloc (Nat.le_refl _) _)) HG8.out HVB.out) 0 _⟩, by simp [intOf]; omega⟩
                    · rw [List.map_append, HYS.out]; exact snoc_take mkPeer HPJ2.out
                    · exact Up.set NPeer.mono (Up.app NPeer.mono (m := X.heap.size) (HUD.out.grow NPeer.mono (show Below wd.heap.size wd (wd.alloc (.cells #[.int .i64 2, .int .i64 0, .int .i64 0, .int .i64 0, .int .i64 (mkBlk ⟨p.base, p.bits⟩).base, .int .i64 (mkBlk ⟨p.base, p.bits⟩).bits, .slice a3 bs.length c3] 69)) from (Below.refl _ wd).alloc (Nat.le_refl _) _)) (by omega) (fun g hg => by have := HVL.out g hg; omega) (by rw [HMK.out]; exact rdBlks.sub (Sub.grow ((Below.refl _ wd).alloc (Nat.le_refl _) _)) (by rw [World.size_alloc]; omega) HR3.out) HO8.out HG8.out HA8.out) ⟨wa.heap.size, 0, none⟩ _ (by show wa.heap.size < W2.heap.size; omega)
          · have hend2 := take_ge hltj
            have htk : (r.peers.take 2).take j = r.peers.take 2 := List.take_of_length_le (by omega)
            have hys2 := HYS.out
            rw [htk] at hys2
            have HY2 := hid hys2
            clear hys2 htk
            by_cases he1 : j < r.peers.length
            · have z7 : (j : Int) < (r.peers.length : Int) := by omega
              have z8 : ¬ (j : Int) < 2 := by omega
              go_wp2
              go_meet
              exact ⟨v, ys, HY2.out, HRB.out, HU2.out, HG2.out⟩
            · have z7 : ¬ (j : Int) < (r.peers.length : Int) := by omega
              go_wp2
              go_meet
              exact ⟨v, ys, HY2.out, HRB.out, HU2.out, HG2.out⟩
      case rest =>
        obtain ⟨v, ys, hys, hrb, hup2, hg2⟩ := hcut
        have hyl : ys.length ≤ 2 := by have h := congrArg List.length hys; simp at h; omega
        obtain ⟨pa2, pc2, rfl, hpc2, hrp2⟩ := upPeers_done hup2 (by omega)
        rw [hys] at hrp2 hrb hup2
        obtain ⟨ps, hps⟩ : ∃ ps, ps = (r.peers.take 2).map mkPeer := ⟨_, rfl⟩
        rw [← hps] at hrp2 hrb hup2
        have HPS := hid hps
        have HRP2 := hid hrp2
        have HRB2 := hid hrb
        have HG2 := hid hg2
        have hsc := hg2.size
        have hne : b ≠ wa.heap.size := by omega
        have f1 : wc.cell? ⟨b, off + k * 2 + 1, none⟩ = some (.slice qa r.ports.length qc) := hg2.cell e1 (fun e => by first | exact hne (Option.some.inj e) | exact hne (Option.some.inj e).symm)
        have HBc := hid (show Below w.heap.size w wc from HB.out.trans ((HB2.out.mono hwa).trans (gb_low hg2 hwa (by omega))))
        have HBca := hid (show Below wa.heap.size wa wc from HB2.out.trans (gb_low hg2 (Nat.le_refl _) (by omega)))
        clear hys hps hrp2 hrb hg2 hup2 e0 e1
        obtain ⟨wq, hwq⟩ : ∃ wq, wq = wc := ⟨_, rfl⟩
        subst hwq
        go_wp2_with fail
        go_loopw [12] (fun i wr => ∃ (m : Nat) (v2 : Value) (qs : List DPort), m ≤ (r.ports.take 2).length ∧ i = .int .i64 m ∧ qs = ((r.ports.take 2).take m).map mkPort ∧ wr.heap[wa.heap.size]? = some (.cells #[.slice pa2 ps.length pc2, v2] 64 (0, 0)) ∧ UpPorts wq.heap.size wr v2 qs ∧ wq.grownBy wr (some wa.heap.size)) (fun i _ => (r.ports.take 2).length - (intOf i).toNat)
        case atStart => exact ⟨0, .slice none 0 0, [], Nat.zero_le _, rfl, rfl, HRB2.out, Up.nil _ _, gb_refl _ _⟩
        case round =>
          obtain ⟨m, v2, qs, hm, rfl, hqs, hqb, hup3, hg3⟩ := hrel
          have HQS := hid hqs
          have hml : qs.length ≤ 2 := by rw [hqs]; simp; omega
          clear hqs
          obtain ⟨wd, hwd⟩ : ∃ wd, wd = wr := ⟨_, rfl⟩
          subst hwd
          have HQB := hid hqb
          have HU3 := hid hup3
          have HG3 := hid hg3
          have hsd := hg3.size
          have f2 : wd.cell? ⟨b, off + k * 2 + 1, none⟩ = some (.slice qa r.ports.length qc) := hg3.cell f1 (fun e => by first | exact hne (Option.some.inj e) | exact hne (Option.some.inj e).symm)
          have r0 : wd.cell? ⟨wa.heap.size, 0, none⟩ = some (.slice pa2 ps.length pc2) := (blk_cell hqb 0).trans rfl
          have r1 : wd.cell? ⟨wa.heap.size, 1, none⟩ = some v2 := (blk_cell hqb 1).trans rfl
          have rf := blk_frozen hqb
          have HBd := hid (show Below wa.heap.size wa wd from HBca.out.trans (gb_low hg3 (Nat.le_refl _) (by omega)))
          have HBdw := hid (show Below w.heap.size w wd from HB.out.trans (HBd.out.mono hwa))
          clear hqb hup3 hg3
          by_cases hltm : m < (r.ports.take 2).length
          · obtain ⟨m1, m2, m3⟩ := take_lt hltm
            obtain ⟨y, hym⟩ : ∃ y, r.ports[m]? = some y := ⟨r.ports[m], by simp [m1]⟩
            have HXM := hid (m3.trans hym)
            obtain ⟨eb, eo, rfl, heb, c0, c1, c2⟩ := HRQ.out.2 m y hym
            have s0 := cell_to c0 HBdw.out
            have s1 := cell_to c1 HBdw.out
            have s2 := cell_to c2 HBdw.out
            obtain ⟨j0, j1, j2⟩ := HIR.out.2 y (List.mem_of_getElem? hym)
            have z5 : (m : Int) < (r.ports.length : Int) := by omega
            have z6 : (m : Int) < 2 := by omega
            have hvb3 : ∀ g, v2.ownBlock = some g → wq.heap.size ≤ g := fun g hg => (HU3.out.lt g hg).1
            have hvl3 : ∀ g, v2.ownBlock = some g → g < wd.heap.size := fun g hg => (HU3.out.lt g hg).2
            have HVB3 := hid hvb3
            have HVL3 := hid hvl3
            clear hym c0 c1 c2 m3 hvb3 hvl3
            go_wp2_with fail
            go_cut [14] from 120 to 129 (fun x wx => x = .pointer (some ⟨wd.heap.size + 1, 0, none⟩) ∧ wx = ((wd.alloc (.cells #[.int .i64 y.proto, .int .i64 y.lo, .int .i64 y.hi] 109)).alloc (.cells #[.int .i64 (pk y.proto 3), .int .i64 (pk y.lo 65536), .int .i64 (pk y.hi 65536)] 109)).drew)
            case first =>
              go_region_held3 (fun w' => w'.cell? ⟨wd.heap.size, 0, none⟩ = some (.int .i64 y.proto) ∧ w'.cell? ⟨wd.heap.size, 1, none⟩ = some (.int .i64 y.lo) ∧ w'.cell? ⟨wd.heap.size, 2, none⟩ = some (.int .i64 y.hi)) (go_keep) (first
                | (go_at_call 22; refine (pick_any _ _ _ (by assumption) (by decide) (by decide)).mono ?_; rintro e w' ⟨rfl, rfl⟩))
              all_goals (
                go_wp2_with fail
                go_meet
                exact ⟨rfl, rfl⟩)
            case rest =>
              obtain ⟨rfl, hwx⟩ := hcut
              have n1 : wc.heap[wd.heap.size + 1]? = some (.cells #[.int .i64 (pk y.proto 3), .int .i64 (pk y.lo 65536), .int .i64 (pk y.hi 65536)] 109 (0, 0)) := by
                rw [hwx]
                have := new_heap (wd.alloc (.cells #[.int .i64 y.proto, .int .i64 y.lo, .int .i64 y.hi] 109)) (.cells #[.int .i64 (pk y.proto 3), .int .i64 (pk y.lo 65536), .int .i64 (pk y.hi 65536)] 109)
                simp only [World.size_alloc] at this
                exact this
              have hB7 : Below wd.heap.size wd wc := by rw [hwx]; exact (by repeat (first | exact Below.refl _ _ | assumption | apply Ext.alloc | apply Ext.drewN | apply Ext.drew | refine Ext.trans ?_ (by assumption)))
              have hs7 : wd.heap.size + 2 ≤ wc.heap.size := by rw [hwx]; show _ ≤ (World.alloc (wd.alloc (.cells #[.int .i64 y.proto, .int .i64 y.lo, .int .i64 y.hi] 109)) _).heap.size; simp only [World.size_alloc]; omega
              have k0 : wc.cell? ⟨wd.heap.size + 1, 0, none⟩ = some (.int .i64 (pk y.proto 3)) := (blk_cell n1 0).trans rfl
              have k1 : wc.cell? ⟨wd.heap.size + 1, 1, none⟩ = some (.int .i64 (pk y.lo 65536)) := (blk_cell n1 1).trans rfl
              have k2 : wc.cell? ⟨wd.heap.size + 1, 2, none⟩ = some (.int .i64 (pk y.hi 65536)) := (blk_cell n1 2).trans rfl
              have kf := blk_frozen n1
              have r1' := cell_to r1 hB7
              have HB7 := hid hB7
              have hne5 : ¬ wa.heap.size = wd.heap.size + 1 := by omega
              have hne6 : ¬ wd.heap.size + 1 = wa.heap.size := by omega
              have HQ7 := hid (show wc.heap[wa.heap.size]? = _ from (hB7.block _ (by omega)).trans HQB.out)
              clear hwx n1 hB7 s0 s1 s2 j0 j1 j2 f2
              by_cases hsw : pk y.hi 65536 < pk y.lo 65536
              · have HMP := hid (show mkPort y = ⟨pk y.proto 3, pk y.hi 65536, pk y.lo 65536⟩ by rw [mkPort, if_pos hsw])
                generalize pk y.proto 3 = p0 at *
                generalize pk y.lo 65536 = p1 at *
                generalize pk y.hi 65536 = p2 at *
                have HZB := hid (show Below wd.heap.size wd ((wc.setCell ⟨wd.heap.size + 1, 1, none⟩ (.int .i64 p2)).setCell ⟨wd.heap.size + 1, 2, none⟩ (.int .i64 p1)) from (HB7.out.setCell (p := ⟨wd.heap.size + 1, 1, none⟩) (by show wd.heap.size ≤ wd.heap.size + 1; omega) _).setCell (p := ⟨wd.heap.size + 1, 2, none⟩) (by show wd.heap.size ≤ wd.heap.size + 1; omega) _)
                have HUZ := hid (show UpPorts wq.heap.size ((wc.setCell ⟨wd.heap.size + 1, 1, none⟩ (.int .i64 p2)).setCell ⟨wd.heap.size + 1, 2, none⟩ (.int .i64 p1)) v2 qs from HU3.out.grow NNo.mono HZB.out)
                have HQZ := hid (show ((wc.setCell ⟨wd.heap.size + 1, 1, none⟩ (.int .i64 p2)).setCell ⟨wd.heap.size + 1, 2, none⟩ (.int .i64 p1)).heap[wa.heap.size]? = some (.cells #[.slice pa2 ps.length pc2, v2] 64 (0, 0)) from (HZB.out.block _ (by omega)).trans HQB.out)
                go_wp2_with (at_builtin; refine wpList_append_own_at _ rfl _ _ 62 rfl wq.heap.size 109 iq0 _ 3 24 Tryz.underlying62 hiq iqz0 iqz1 iqz2 rfl (by decide) _ _ _ rfl (HUZ.out.1.alloc (.cells #[.int .i64 p0, .int .i64 p2, .int .i64 p1] 109)) ⟨wc.heap.size, 0, none⟩ 1 1 (encPort ⟨p0, p2, p1⟩) (by simp [go_sem]) rfl (by have := cell_new_list ((wc.setCell ⟨wd.heap.size + 1, 1, none⟩ (.int .i64 p2)).setCell ⟨wd.heap.size + 1, 2, none⟩ (.int .i64 p1)) (encPort ⟨p0, p2, p1⟩) 109; simp only [World.size_setCell] at this; exact this) (by intro u hu; simp only [encPort, List.mem_cons, List.not_mem_nil, or_false] at hu; rcases hu with rfl | rfl | rfl <;> rfl) (by unfold maxLen; omega) (by omega) (by rw [World.size_alloc]; have := HZB.out.size; omega) ?_; intro v' w8 hown8 hg8 hnil8 hat8; obtain ⟨a8, c8, rfl, _, _⟩ := own_slice hown8; have t8 : w8.heap[wa.heap.size]? = some (.cells #[.slice pa2 ps.length pc2, v2] 64 (0, 0)) := (hg8.block wa.heap.size (by rw [World.size_alloc]; have := HZB.out.size; omega) (fun e => by have := HVB3.out _ e.symm; omega)).trans ((Below.heap_alloc _ _ _ (by have := HZB.out.size; omega)).trans HQZ.out); have k6 : w8.cell? ⟨wa.heap.size, 1, none⟩ = some v2 := (blk_cell t8 1).trans rfl; have kf8 := blk_frozen t8; have HT8 := hid t8; have HO8 := hid hown8; have HG8 := hid hg8; have HA8 := hid hat8; clear hown8 hg8 hnil8 hat8 t8)
                have HZA := hid (show Below wd.heap.size wd (((wc.setCell ⟨wd.heap.size + 1, 1, none⟩ (.int .i64 p2)).setCell ⟨wd.heap.size + 1, 2, none⟩ (.int .i64 p1)).alloc (.cells #[.int .i64 p0, .int .i64 p2, .int .i64 p1] 109)) from HZB.out.alloc HZB.out.size _)
                refine ⟨⟨m + 1, _, qs ++ [mkPort y], by omega, by go_num, by rw [HQS.out]; exact snoc_take mkPort HXM.out, (set_blk HT8.out 1 _).trans rfl, ?_, gb_set (gb_row (gb_below HG3.out HZA.out) HG8.out HVB3.out) 1 _⟩, by simp [intOf]; omega⟩
                rw [HMP.out]
                exact Up.set NNo.mono (Up.app NNo.mono (m := wd.heap.size) (HU3.out.grow NNo.mono HZA.out) hsd (fun g hg => HVL3.out g hg) trivial HO8.out HG8.out HA8.out) ⟨wa.heap.size, 1, none⟩ _ (by show wa.heap.size < wq.heap.size; omega)
              · have HMP := hid (show mkPort y = ⟨pk y.proto 3, pk y.lo 65536, pk y.hi 65536⟩ by rw [mkPort, if_neg hsw])
                generalize pk y.proto 3 = p0 at *
                generalize pk y.lo 65536 = p1 at *
                generalize pk y.hi 65536 = p2 at *
                have HZB := HB7
                have HUZ := hid (HU3.out.grow NNo.mono HZB.out)
                have HQZ := HQ7
                go_wp2_with (at_builtin; refine wpList_append_own_at _ rfl _ _ 62 rfl wq.heap.size 109 iq0 _ 3 24 Tryz.underlying62 hiq iqz0 iqz1 iqz2 rfl (by decide) _ _ _ rfl (HUZ.out.1.alloc (.cells #[.int .i64 p0, .int .i64 p1, .int .i64 p2] 109)) ⟨wc.heap.size, 0, none⟩ 1 1 (encPort ⟨p0, p1, p2⟩) (by simp [go_sem]) rfl (cell_new_list wc (encPort ⟨p0, p1, p2⟩) _) (by intro u hu; simp only [encPort, List.mem_cons, List.not_mem_nil, or_false] at hu; rcases hu with rfl | rfl | rfl <;> rfl) (by unfold maxLen; omega) (by omega) (by rw [World.size_alloc]; have := HZB.out.size; omega) ?_; intro v' w8 hown8 hg8 hnil8 hat8; obtain ⟨a8, c8, rfl, _, _⟩ := own_slice hown8; have t8 : w8.heap[wa.heap.size]? = some (.cells #[.slice pa2 ps.length pc2, v2] 64 (0, 0)) := (hg8.block wa.heap.size (by rw [World.size_alloc]; have := HZB.out.size; omega) (fun e => by have := HVB3.out _ e.symm; omega)).trans ((Below.heap_alloc _ _ _ (by have := HZB.out.size; omega)).trans HQZ.out); have k6 : w8.cell? ⟨wa.heap.size, 1, none⟩ = some v2 := (blk_cell t8 1).trans rfl; have kf8 := blk_frozen t8; have HT8 := hid t8; have HO8 := hid hown8; have HG8 := hid hg8; have HA8 := hid hat8; clear hown8 hg8 hnil8 hat8 t8)
                have HZA := hid (show Below wd.heap.size wd ((wc).alloc (.cells #[.int .i64 p0, .int .i64 p1, .int .i64 p2] 109)) from HZB.out.alloc HZB.out.size _)
                refine ⟨⟨m + 1, _, qs ++ [mkPort y], by omega, by go_num, by rw [HQS.out]; exact snoc_take mkPort HXM.out, (set_blk HT8.out 1 _).trans rfl, ?_, gb_set (gb_row (gb_below HG3.out HZA.out) HG8.out HVB3.out) 1 _⟩, by simp [intOf]; omega⟩
                rw [HMP.out]
                exact Up.set NNo.mono (Up.app NNo.mono (m := wd.heap.size) (HU3.out.grow NNo.mono HZA.out) hsd (fun g hg => HVL3.out g hg) trivial HO8.out HG8.out HA8.out) ⟨wa.heap.size, 1, none⟩ _ (by show wa.heap.size < wq.heap.size; omega)
          · have hend2 := take_ge hltm
            have htk : (r.ports.take 2).take m = r.ports.take 2 := List.take_of_length_le (by omega)
            have HMR := hid (show mkRule r = ⟨ps, qs⟩ by rw [mkRule, HPS.out, HQS.out, htk])
            obtain ⟨a3, c3, rfl, hc3, hr3⟩ := upPorts_done HU3.out (by omega)
            have HR3 := hid hr3
            have HN := hid (show ∀ o, NRule (wd.alloc o).heap.size (hide (wd.alloc o) (low W2.heap.size)) ⟨⟨ps, qs⟩, pa2, pc2, a3, c3⟩ from fun o =>
              have hb := (Below.refl wd.heap.size wd).alloc (Nat.le_refl _) o
              ⟨rdPeers.sub ((Sub.hide fun b' hb' hG => ⟨hG, HG3.out.block b' hb' (fun e => by cases e; have := low_false.1 hG; omega)⟩).trans (Sub.grow hb)) (Nat.le_trans hsd hb.size) HRP2.out, rdPorts.sub ((Sub.low hsc).trans (Sub.grow hb)) hb.size HR3.out⟩)
            have HUD := hid (HU.out.grow NRule.mono HBd.out)
            have HKL := hid (show ∀ g, kv.ownBlock = some g → g < wa.heap.size from fun g hg => (HU.out.lt g hg).2)
            have hdl := HBd.out.size
            clear hr3 htk
            by_cases he1 : m < r.ports.length
            · have z7 : (m : Int) < (r.ports.length : Int) := by omega
              have z8 : ¬ (m : Int) < 2 := by omega
              go_wp2_with (at_builtin; refine wpList_append_own_at _ rfl _ _ 57 rfl w.heap.size 64 ir0 _ 2 48 Tryz.underlying57 hir irz0 irz1 irz2 rfl (by decide) _ _ _ rfl (HUD.out.1.alloc (.cells #[.slice pa2 ps.length pc2, .slice a3 qs.length c3] 64)) ⟨wd.heap.size, 0, none⟩ 1 1 (encXRule ⟨mkRule r, pa2, pc2, a3, c3⟩) rfl (by rw [HMR.out]; rfl) (by rw [HMR.out]; exact cell_new_list wd (encXRule ⟨⟨ps, qs⟩, pa2, pc2, a3, c3⟩) _) (by rw [HMR.out]; intro u hu; simp only [encXRule, List.mem_cons, List.not_mem_nil, or_false] at hu; rcases hu with rfl | rfl <;> rfl) (by unfold maxLen; omega) (by omega) (by rw [World.size_alloc]; omega) ?_; intro v' w8 hown8 hg8 hnil8 hat8; have HO8 := hid hown8; have HG8 := hid hg8; have HA8 := hid hat8; clear hown8 hg8 hnil8 hat8)
              refine ⟨⟨k + 1, xs ++ [⟨mkRule r, pa2, pc2, a3, c3⟩], by omega, by go_num, by rw [List.map_append, HXS.out]; exact snoc_take mkRule HRK2.out, ?_, ?_⟩, by simp [intOf]; omega⟩
              · exact Up.app NRule.mono (m := W2.heap.size) (HUD.out.grow NRule.mono (show Below wd.heap.size wd (wd.alloc (.cells #[.slice pa2 ps.length pc2, .slice a3 qs.length c3] 64)) from (Below.refl _ wd).alloc (Nat.le_refl _) _)) (by omega) (fun g hg => by have := HKL.out g hg; omega) (by rw [HMR.out]; exact HN.out _) HO8.out HG8.out HA8.out
              · exact own_below (HBdw.out.alloc HBdw.out.size _) (by rw [World.size_alloc]; omega) (HUD.out.1.alloc _) HG8.out
            · have z7 : ¬ (m : Int) < (r.ports.length : Int) := by omega
              go_wp2_with (at_builtin; refine wpList_append_own_at _ rfl _ _ 57 rfl w.heap.size 64 ir0 _ 2 48 Tryz.underlying57 hir irz0 irz1 irz2 rfl (by decide) _ _ _ rfl (HUD.out.1.alloc (.cells #[.slice pa2 ps.length pc2, .slice a3 qs.length c3] 64)) ⟨wd.heap.size, 0, none⟩ 1 1 (encXRule ⟨mkRule r, pa2, pc2, a3, c3⟩) rfl (by rw [HMR.out]; rfl) (by rw [HMR.out]; exact cell_new_list wd (encXRule ⟨⟨ps, qs⟩, pa2, pc2, a3, c3⟩) _) (by rw [HMR.out]; intro u hu; simp only [encXRule, List.mem_cons, List.not_mem_nil, or_false] at hu; rcases hu with rfl | rfl <;> rfl) (by unfold maxLen; omega) (by omega) (by rw [World.size_alloc]; omega) ?_; intro v' w8 hown8 hg8 hnil8 hat8; have HO8 := hid hown8; have HG8 := hid hg8; have HA8 := hid hat8; clear hown8 hg8 hnil8 hat8)
              refine ⟨⟨k + 1, xs ++ [⟨mkRule r, pa2, pc2, a3, c3⟩], by omega, by go_num, by rw [List.map_append, HXS.out]; exact snoc_take mkRule HRK2.out, ?_, ?_⟩, by simp [intOf]; omega⟩
              · exact Up.app NRule.mono (m := W2.heap.size) (HUD.out.grow NRule.mono (show Below wd.heap.size wd (wd.alloc (.cells #[.slice pa2 ps.length pc2, .slice a3 qs.length c3] 64)) from (Below.refl _ wd).alloc (Nat.le_refl _) _)) (by omega) (fun g hg => by have := HKL.out g hg; omega) (by rw [HMR.out]; exact HN.out _) HO8.out HG8.out HA8.out
              · exact own_below (HBdw.out.alloc HBdw.out.size _) (by rw [World.size_alloc]; omega) (HUD.out.1.alloc _) HG8.out
    · have hend := take_ge hlt
      have htk : (l.take 2).take k = l.take 2 := List.take_of_length_le (by omega)
      obtain ⟨a, c, rfl, hc, hr⟩ := upRules_done HU.out (by omega)
      have hm : xs.map (·.d) = mkRules l := by rw [HXS.out, htk]; rfl
      obtain ⟨R, hR⟩ : ∃ R, R = mkRules l := ⟨_, rfl⟩
      rw [hm, ← hR] at hc hr ⊢
      have HR := hid hr
      have HRR := hid hR
      have HXM := hid hm
      have HUP := HU
      rw [hm, ← hR] at HUP
      clear hr htk hm hR
      by_cases he1 : k < l.length
      · have z7 : (k : Int) < (l.length : Int) := by omega
        have z8 : ¬ (k : Int) < 2 := by omega
        go_wp2
        go_ret
        exact ⟨⟨a, c, by rw [← HRR.out]; rfl, by rw [← HRR.out]; exact hc, by rw [← HRR.out]; exact HR.out, xs, HXM.out, by rw [← HRR.out]; exact HUP.out⟩, HB.out⟩
      · have z7 : ¬ (k : Int) < (l.length : Int) := by omega
        go_wp2
        go_ret
        exact ⟨⟨a, c, by rw [← HRR.out]; rfl, by rw [← HRR.out]; exact hc, by rw [← HRR.out]; exact HR.out, xs, HXM.out, by rw [← HRR.out]; exact HUP.out⟩, HB.out⟩
end Go.Proofs.YtmkjlhplgcifiaaGreat
