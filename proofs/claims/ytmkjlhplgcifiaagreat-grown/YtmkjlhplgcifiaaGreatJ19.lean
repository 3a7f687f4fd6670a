/-
  block.Without: the list of blocks that are left.
-/
import Derived.Test.YtmkjlhplgcifiaaGreatJ18
namespace Go.Proofs.YtmkjlhplgcifiaaGreat
open Go.ChangeShapes Go.WideShapes Go.ChangeAt Go.RowKit
attribute [local simp] World.cell?_grow
attribute [local go_sem] World.cell?_grow
attribute [local go_sem] eqg_blk std_blk eqg_pod std_pod eqg_sel std_sel eqg_prt std_prt
attribute [local go_sem ↓] eql_blk eql_sel neq_sel eql_prt eql_pod
attribute [local go_sem ↓] met_in1 met_in2 met_re1 met_re2
set_option linter.unusedVariables false
set_option linter.unusedSimpArgs false
theorem news_blks {w : World} {base : Nat} {e : TypeId} {a : Option Addr} {n c : Nat} {l : List DBlk} (h : w.ownsRow base e 2 (.slice a n c) n (l.flatMap encBlk)) : ∀ j u, (l.flatMap encBlk)[j]? = some u → ∃ b o, a = some ⟨b, o, none⟩ ∧ w.cell? ⟨b, o + j, none⟩ = some u := by
  obtain ⟨a', c', e', _, hc⟩ := own_slice h
  cases e'
  intro j u hj
  obtain ⟨b, rfl, _, _, h1⟩ := hc j u hj
  exact ⟨b, 0, rfl, by rw [Nat.zero_add]; exact h1⟩
theorem grown_low {w w' w1 : World} {base : Nat} {e : TypeId} {size : Nat} {v : Value} {n : Nat} {xs : List Value} {b o : Nat} {u : Value} (hg : w.grownBy w' v.ownBlock) (hown : w1.ownsRow base e size v n xs) (hb : b < base) (h : w.cell? ⟨b, o, none⟩ = some u) : w'.cell? ⟨b, o, none⟩ = some u :=
  hg.cell h (fun e => by have := (hown.lt b e.symm).1; omega)
theorem wl_max {m n : Nat} (h1 : m ≤ 65) (h2 : n ≤ 65) : m + n ≤ maxLen := by unfold maxLen; omega
theorem wl_bytes {m n : Nat} (h1 : m ≤ 65) (h2 : n ≤ 65) : (m + n) * 16 ≤ 140737488355328 := by omega
set_option maxRecDepth 100000 in
set_option maxHeartbeats 4000000 in
theorem without_any : ∀ (f : Nat) (bb bn : Int) (ea : Option Addr) (ec : Nat) (ex : List DBlk) (w : World), blkOk ⟨bb, bn⟩ = true → ex.all blkOk = true → ex.length ≤ 2 → 33 - bn ≤ f → rdBlks w.heap.size w ea ex →
    Calls Tryz.prog 233 #[.agg #[.int .i64 bb, .int .i64 bn], .slice ea ex.length ec] w fun e w' => (∃ v, e = .returned v ∧ w'.ownsRow w.heap.size 47 2 v (wout f ⟨bb, bn⟩ ex).length ((wout f ⟨bb, bn⟩ ex).flatMap encBlk)) ∧ Below w.heap.size w w'
  | 0, bb, bn, ea, ec, ex, w, hb, _, _, hf, _ => by have := (blkOk_true.1 hb).2.1; simp at this; omega
  | f + 1, bb, bn, ea, ec, ex, w, hb, he, hl, hf, hr => by
    have IH := hid (without_any f)
    have HB := hid hb
    have HE := hid he
    have HR := hid hr
    obtain ⟨hb0, hb1, hb3, hb4, hb5⟩ := blkOk_true.1 hb
    simp only at hb0 hb1 hb3 hb4
    have hmf := mkFunc
    clear hb he hr hb5
    obtain ⟨i0, hi, iz0, iz1, iz2⟩ := info_parts info_blk
    cases h1 : ex.any (inn ⟨bb, bn⟩)
    · cases h2 : ex.any (fun e => inn e ⟨bb, bn⟩)
      · have HF := hid (show wout (f + 1) ⟨bb, bn⟩ ex = [⟨bb, bn⟩] by rw [wout, h1, h2]; rfl)
        have M1 := hid True.intro
        go_enter Tryz.func233, Tryz.ntmps233
        go_wp2_with (first
          | (go_at_call 235; have m1 := M1.out; refine (anyBlkW1 (inn ⟨bb, bn⟩) _ _ _ _ _ (rdBlks.to HR.out (by repeat (first | exact Below.refl _ _ | assumption | apply Ext.alloc | apply Ext.drewN | apply Ext.drew | refine Ext.trans ?_ (by assumption)))) (fun x w2 hx hb2 => woClo1 ⟨bb, bn⟩ x _ w2 (List.all_eq_true.1 HE.out x hx) hb3 hb4 (cell_to (by simp [go_sem]) hb2) (cell_to (by simp [go_sem]) hb2))).mono ?_; rw [h1]; rintro e w1 ⟨rfl, hb1⟩; obtain ⟨hc1, hf1⟩ := bcell hb1; have hz1 := hb_lt hb1; clear M1 m1; have q0 : w1.cell? ⟨w.heap.size, 0, none⟩ = some (.int .i64 bb) := cell_to (by simp [go_sem]) hb1; have q1 : w1.cell? ⟨w.heap.size, 1, none⟩ = some (.int .i64 bn) := cell_to (by simp [go_sem]) hb1)
          | (go_at_call 235; refine (anyBlkW2 (fun e => inn e ⟨bb, bn⟩) _ _ _ _ _ (rdBlks.to HR.out (by repeat (first | exact Below.refl _ _ | assumption | apply Ext.alloc | apply Ext.drewN | apply Ext.drew | refine Ext.trans ?_ (by assumption)))) (fun x w2 hx hb2 => woClo2 ⟨bb, bn⟩ x _ w2 HB.out (blkOk_true.1 (List.all_eq_true.1 HE.out x hx)).2.2.1 (blkOk_true.1 (List.all_eq_true.1 HE.out x hx)).2.2.2.1 (cell_to q0 hb2) (cell_to q1 hb2))).mono ?_; rw [h2]; rintro e w2 ⟨rfl, hb2⟩; obtain ⟨hc2, hf2⟩ := bcell hb2; have hz2 := hb_lt hb2; have r0 := cell_to q0 hb2; have r1 := cell_to q1 hb2))
        go_ret
        refine ⟨⟨_, rfl, ?_⟩, (by repeat (first | exact Below.refl _ _ | assumption | apply Ext.alloc | apply Ext.drewN | apply Ext.drew | refine Ext.trans ?_ (by assumption)))⟩
        rw [HF.out]
        exact own_built w2 [.int .i64 bb, .int .i64 bn] w.heap.size _ 2 1 (by have := (show Below w.heap.size w w2 from (by repeat (first | exact Below.refl _ _ | assumption | apply Ext.alloc | apply Ext.drewN | apply Ext.drew | refine Ext.trans ?_ (by assumption)))).size; omega) rfl (by unfold maxLen; omega)
      · have hlt : bn < 32 := by
          rcases Int.lt_or_le bn 32 with h | h
          · exact h
          · obtain ⟨e, hem, hei⟩ := List.any_eq_true.1 h2
            have := List.any_eq_true.2 ⟨e, hem, inn_full (List.all_eq_true.1 HE.out e hem) HB.out hei (show bn = 32 by omega)⟩
            rw [h1] at this; cases this
        have HF := hid (show wout (f + 1) ⟨bb, bn⟩ ex = wout f ⟨bb, bn + 1⟩ ex ++ wout f ⟨bb + pw (bn + 1), bn + 1⟩ ex by rw [wout, h1, h2]; rfl)
        have HL := hid (low_ok HB.out hlt)
        have HH := hid (high_ok HB.out hlt)
        have HL2 := hid (wout_le f HL.out HE.out hl)
        have HH2 := hid (wout_le f HH.out HE.out hl)
        have M1 := hid True.intro
        go_enter Tryz.func233, Tryz.ntmps233
        go_wp2_with (first
          | (go_at_call 235; have m1 := M1.out; refine (anyBlkW1 (inn ⟨bb, bn⟩) _ _ _ _ _ (rdBlks.to HR.out (by repeat (first | exact Below.refl _ _ | assumption | apply Ext.alloc | apply Ext.drewN | apply Ext.drew | refine Ext.trans ?_ (by assumption)))) (fun x w2 hx hb2 => woClo1 ⟨bb, bn⟩ x _ w2 (List.all_eq_true.1 HE.out x hx) hb3 hb4 (cell_to (by simp [go_sem]) hb2) (cell_to (by simp [go_sem]) hb2))).mono ?_; rw [h1]; rintro e w1 ⟨rfl, hb1⟩; obtain ⟨hc1, hf1⟩ := bcell hb1; have hz1 := hb_lt hb1; clear M1 m1; have q0 : w1.cell? ⟨w.heap.size, 0, none⟩ = some (.int .i64 bb) := cell_to (by simp [go_sem]) hb1; have q1 : w1.cell? ⟨w.heap.size, 1, none⟩ = some (.int .i64 bn) := cell_to (by simp [go_sem]) hb1)
          | (go_at_call 235; refine (anyBlkW2 (fun e => inn e ⟨bb, bn⟩) _ _ _ _ _ (rdBlks.to HR.out (by repeat (first | exact Below.refl _ _ | assumption | apply Ext.alloc | apply Ext.drewN | apply Ext.drew | refine Ext.trans ?_ (by assumption)))) (fun x w2 hx hb2 => woClo2 ⟨bb, bn⟩ x _ w2 HB.out (blkOk_true.1 (List.all_eq_true.1 HE.out x hx)).2.2.1 (blkOk_true.1 (List.all_eq_true.1 HE.out x hx)).2.2.2.1 (cell_to q0 hb2) (cell_to q1 hb2))).mono ?_; rw [h2]; rintro e w2 ⟨rfl, hb2⟩; obtain ⟨hc2, hf2⟩ := bcell hb2; have hz2 := hb_lt hb2; have r0 := cell_to q0 hb2; have r1 := cell_to q1 hb2)
          | (go_at_call 239; refine (halves_any ⟨bb, bn⟩ _ HB.out hlt).mono ?_; rintro e w3 ⟨rfl, hb3⟩; obtain ⟨hc3, hf3⟩ := bcell hb3; have hz3 := hb_lt hb3))
        have hBW : Below w.heap.size w ((w3.alloc (.cells #[.int .i64 bb, .int .i64 (bn + 1)] 47)).alloc (.cells #[.int .i64 (bb + pw (bn + 1)), .int .i64 (bn + 1)] 47)) := (by repeat (first | exact Below.refl _ _ | assumption | apply Ext.alloc | apply Ext.drewN | apply Ext.drew | refine Ext.trans ?_ (by assumption)))
        have s0 : ((w3.alloc (.cells #[.int .i64 bb, .int .i64 (bn + 1)] 47)).alloc (.cells #[.int .i64 (bb + pw (bn + 1)), .int .i64 (bn + 1)] 47)).cell? ⟨w3.heap.size, 0, none⟩ = some (.int .i64 bb) := by simp [go_sem]
        have s1 : ((w3.alloc (.cells #[.int .i64 bb, .int .i64 (bn + 1)] 47)).alloc (.cells #[.int .i64 (bb + pw (bn + 1)), .int .i64 (bn + 1)] 47)).cell? ⟨w3.heap.size, 1, none⟩ = some (.int .i64 (bn + 1)) := by simp [go_sem]
        have s2 : ((w3.alloc (.cells #[.int .i64 bb, .int .i64 (bn + 1)] 47)).alloc (.cells #[.int .i64 (bb + pw (bn + 1)), .int .i64 (bn + 1)] 47)).cell? ⟨w3.heap.size + 1, 0, none⟩ = some (.int .i64 (bb + pw (bn + 1))) := by simp [go_sem]
        have s3 : ((w3.alloc (.cells #[.int .i64 bb, .int .i64 (bn + 1)] 47)).alloc (.cells #[.int .i64 (bb + pw (bn + 1)), .int .i64 (bn + 1)] 47)).cell? ⟨w3.heap.size + 1, 1, none⟩ = some (.int .i64 (bn + 1)) := by simp [go_sem]
        generalize (w3.alloc (.cells #[.int .i64 bb, .int .i64 (bn + 1)] 47)).alloc (.cells #[.int .i64 (bb + pw (bn + 1)), .int .i64 (bn + 1)] 47) = W at hBW s0 s1 s2 s3 ⊢
        have HBW := hid hBW
        have hWs := hBW.size
        have M2 := hid True.intro
        clear hb1 hc1 hf1 hz1 q0 q1 hb2 hc2 hf2 hz2 r0 r1 hb3 hc3 hf3 hz3 hBW hmf
        have t0 : W.drew.cell? ⟨w3.heap.size, 0, none⟩ = some (.int .i64 bb) := s0
        have t1 : W.drew.cell? ⟨w3.heap.size, 1, none⟩ = some (.int .i64 (bn + 1)) := s1
        have t2 : W.drew.cell? ⟨w3.heap.size + 1, 0, none⟩ = some (.int .i64 (bb + pw (bn + 1))) := s2
        have t3 : W.drew.cell? ⟨w3.heap.size + 1, 1, none⟩ = some (.int .i64 (bn + 1)) := s3
        go_region_held3 (fun w' => w'.cell? ⟨w3.heap.size, 0, none⟩ = some (.int .i64 bb) ∧ w'.cell? ⟨w3.heap.size, 1, none⟩ = some (.int .i64 (bn + 1)) ∧ w'.cell? ⟨w3.heap.size + 1, 0, none⟩ = some (.int .i64 (bb + pw (bn + 1))) ∧ w'.cell? ⟨w3.heap.size + 1, 1, none⟩ = some (.int .i64 (bn + 1))) (go_keep) (first
          | (go_at_call 233; have m2 := M2.out; refine (IH.out bb (bn + 1) ea ec ex W.drew HL.out HE.out hl (by omega) (rdBlks.ext (HBW.out.drew) (by show w.heap.size ≤ W.heap.size; omega) HR.out)).mono ?_; rintro e w4 ⟨⟨v4, rfl, ho4⟩, hb4⟩; obtain ⟨a4, c4, rfl, hc4, _⟩ := own_slice ho4; have HO4 := hid ho4; have HB4 := hid hb4; have u0 := cell_to t0 hb4; have u1 := cell_to t1 hb4; have u2 := cell_to t2 hb4; have u3 := cell_to t3 hb4; clear ho4 M2 m2)
          | (go_at_call 233; refine (IH.out (bb + pw (bn + 1)) (bn + 1) ea ec ex w4 HH.out HE.out hl (by omega) (rdBlks.ext (HBW.out.drew.trans (HB4.out.mono (by show w.heap.size ≤ W.heap.size; omega))) (by have := HB4.out.size; have h2 : W.drew.heap.size = W.heap.size := rfl; omega) HR.out)).mono ?_; rintro e w5 ⟨⟨v5, rfl, ho5⟩, hb5⟩; obtain ⟨a5, c5, rfl, hc5, _⟩ := own_slice ho5; have HO5 := hid ho5; have HB5 := hid hb5; have x0 := cell_to u0 hb5; have x1 := cell_to u1 hb5; have x2 := cell_to u2 hb5; have x3 := cell_to u3 hb5; clear ho5)
          | ((refine step_append_list w5 (by rfl) (.tmp 23) (.tmp 26) 67 (by rfl) w.heap.size 47 i0 _ 2 16 Tryz.underlying67 hi iz0 iz1 iz2 rfl (by decide) _ _ _ (by rfl) (own_le (own_to HO4.out HB5.out) (by show w.heap.size ≤ W.heap.size; omega)) a5 _ c5 ((wout f ⟨bb + pw (bn + 1), bn + 1⟩ ex).flatMap encBlk) (by rfl) (oflat_len (k := 2) (fun _ => rfl) _) (news_blks HO5.out) (encBlk_one _) (wl_max HL2.out HH2.out) (wl_bytes HL2.out HH2.out) (by have := HB5.out.size; have h4 := HB4.out.size; have h2 : W.drew.heap.size = W.heap.size := rfl; omega) ?_; intro v' w6 hown6 hg6; have y0 := grown_low hg6 HO4.out (show w3.heap.size < W.heap.size from cell_lt s0) x0; have y1 := grown_low hg6 HO4.out (show w3.heap.size < W.heap.size from cell_lt s0) x1; have y2 := grown_low hg6 HO4.out (show w3.heap.size + 1 < W.heap.size from cell_lt s2) x2; have y3 := grown_low hg6 HO4.out (show w3.heap.size + 1 < W.heap.size from cell_lt s2) x3; have HO6 := hid hown6; have HG6 := hid hg6; clear hown6 hg6)))
        go_wp2
        go_ret
        refine ⟨⟨_, rfl, ?_⟩, ?_⟩
        · rw [HF.out, List.length_append, List.flatMap_append]; exact HO6.out
        · refine Below.grown (HBW.out.drew.trans ((HB4.out.mono (show w.heap.size ≤ W.heap.size by omega)).trans (HB5.out.mono (by have h4 := HB4.out.size; have h2 : W.drew.heap.size = W.heap.size := rfl; omega)))) HG6.out (by have := HB5.out.size; have h4 := HB4.out.size; have h2 : W.drew.heap.size = W.heap.size := rfl; omega) (fun k hk => by have := (HO4.out.lt k hk).1; have h2 : W.drew.heap.size = W.heap.size := rfl; omega)
    · have HF := hid (show wout (f + 1) ⟨bb, bn⟩ ex = [] by rw [wout, h1]; rfl)
      go_enter Tryz.func233, Tryz.ntmps233
      go_wp2_with (go_at_call 235; refine (anyBlkW1 (inn ⟨bb, bn⟩) _ _ _ _ _ (rdBlks.to HR.out (by repeat (first | exact Below.refl _ _ | assumption | apply Ext.alloc | apply Ext.drewN | apply Ext.drew | refine Ext.trans ?_ (by assumption)))) (fun x w2 hx hb2 => woClo1 ⟨bb, bn⟩ x _ w2 (List.all_eq_true.1 HE.out x hx) hb3 hb4 (cell_to (by simp [go_sem]) hb2) (cell_to (by simp [go_sem]) hb2))).mono ?_; rw [h1]; rintro e w1 ⟨rfl, hb1⟩; obtain ⟨hc1, hf1⟩ := bcell hb1; have hz1 := hb_lt hb1)
      go_ret
      exact ⟨⟨_, rfl, by rw [HF.out]; exact World.ownsRow_nil _ _ _ _⟩, (by repeat (first | exact Below.refl _ _ | assumption | apply Ext.alloc | apply Ext.drewN | apply Ext.drew | refine Ext.trans ?_ (by assumption)))⟩
end Go.Proofs.YtmkjlhplgcifiaaGreat
