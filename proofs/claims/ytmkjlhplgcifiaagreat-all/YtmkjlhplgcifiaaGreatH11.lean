/-
  block.Without: the list of blocks that are left.
-/
import Derived.Test.YtmkjlhplgcifiaaGreatH10
import Derived.Test.YtmkjlhplgcifiaaGreatH01
import Derived.Test.YtmkjlhplgcifiaaGreatRows
import Derived.Shelf.SlSortCmp.InsertionK
namespace Go.Proofs.YtmkjlhplgcifiaaGreat
open Go.ChangeShapes Go.WideShapes Go.ChangeAt Go.RowKit
set_option linter.unusedVariables false
set_option linter.unusedSimpArgs false
attribute [local simp] World.cell?_grow
attribute [local go_sem] World.cell?_grow eqg_blk std_blk eqg_pod std_pod eqg_sel std_sel eqg_prt std_prt
attribute [local go_sem ↓] eql_blk eql_sel neq_sel eql_prt eql_pod met_in1 met_in2 met_re1 met_re2
theorem news_blks {w : World} {base : Nat} {e : TypeId} {a : Option Addr} {n c : Nat} {l : List DBlk} (h : w.ownsRow base e 2 (.slice a n c) n (l.flatMap encBlk)) : ∀ j u, (l.flatMap encBlk)[j]? = some u → ∃ b o, a = some ⟨b, o, none⟩ ∧ w.cell? ⟨b, o + j, none⟩ = some u := by
  obtain ⟨a', c', e', _, hc⟩ := own_slice h
  cases e'
  intro j u hj
  obtain ⟨b, rfl, _, _, h1⟩ := hc j u hj
  exact ⟨b, 0, rfl, by rw [Nat.zero_add]; exact h1⟩
theorem grown_low {w w' w1 : World} {base : Nat} {e : TypeId} {size : Nat} {v : Value} {n : Nat} {xs : List Value} {b o : Nat} {u : Value} (hg : w.grownBy w' v.ownBlock) (hown : w1.ownsRow base e size v n xs) (hb : b < base) (h : w.cell? ⟨b, o, none⟩ = some u) : w'.cell? ⟨b, o, none⟩ = some u :=
  hg.cell h (fun e => by have := (hown.lt b e.symm).1; omega)
theorem wl_max {m n : Nat} (h1 : m ≤ 65) (h2 : n ≤ 65) : m + n ≤ maxLen := by unfold maxLen; omega
theorem wl_bytes {m n : Nat} (h1 : m ≤ 65) (h2 : n ≤ 65) : (m + n) * 16 ≤ 140737488355328 := by omega
set_option maxRecDepth 100000 in
set_option maxHeartbeats 4000000 in
theorem without_any : ∀ (f : Nat) (bb bn : Int) (ea : Option Addr) (ec : Nat) (ex : List DBlk) (w : World), blkOk ⟨bb, bn⟩ = true → ex.all blkOk = true → ex.length ≤ 2 → 33 - bn ≤ f → rdBlks w.heap.size w ea ex →
    Calls Tryz.prog 233 #[.agg #[.int .i64 bb, .int .i64 bn], .slice ea ex.length ec] w fun e w' => (∃ v, e = .returned v ∧ w'.ownsRow w.heap.size 47 2 v (wout f ⟨bb, bn⟩ ex).length ((wout f ⟨bb, bn⟩ ex).flatMap encBlk)) ∧ Below w.heap.size w w'
  | 0, bb, bn, ea, ec, ex, w, hb, _, _, hf, _ => by have := (blkOk_true.1 hb).2.1; simp at this; omega
  | f + 1, bb, bn, ea, ec, ex, w, hb, he, hl, hf, hr => by
    have IH := hid (without_any f)
    have HB := hid hb
    have HE := hid he
    have HR := hid hr
    obtain ⟨hb0, hb1, hb3, hb4, hb5⟩ := blkOk_true.1 hb
    simp only at hb0 hb1 hb3 hb4
    have hmf := mkFunc
    clear hb he hr hb5
    obtain ⟨i0, hi, iz0, iz1, iz2⟩ := info_parts info_blk
    cases h1 : ex.any (inn ⟨bb, bn⟩)
    · cases h2 : ex.any (fun e => inn e ⟨bb, bn⟩)
      · have HF := hid (show wout (f + 1) ⟨bb, bn⟩ ex = [⟨bb, bn⟩] by rw [wout, h1, h2]; rfl)
        have M1 := hid True.intro
        go_enter Tryz.func233, Tryz.ntmps233
        go_wp2_with (first
          | (go_at_call 235; have m1 := M1.out; refine (anyBlkW1 (inn ⟨bb, bn⟩) _ _ _ _ _ (rdBlks.to HR.out bel) (fun x w2 hx hb2 => woClo1 ⟨bb, bn⟩ x _ w2 (List.all_eq_true.1 HE.out x hx) hb3 hb4 (cell_to (by simp [go_sem]) hb2) (cell_to (by simp [go_sem]) hb2))).mono ?_; rw [h1]; rintro e w1 ⟨rfl, hb1⟩; obtain ⟨hc1, hf1⟩ := bcell hb1; have hz1 := hb_lt hb1; clear M1 m1; have q0 : w1.cell? ⟨w.heap.size, 0, none⟩ = some (.int .i64 bb) := cell_to (by simp [go_sem]) hb1; have q1 : w1.cell? ⟨w.heap.size, 1, none⟩ = some (.int .i64 bn) := cell_to (by simp [go_sem]) hb1)
          | (go_at_call 235; refine (anyBlkW2 (fun e => inn e ⟨bb, bn⟩) _ _ _ _ _ (rdBlks.to HR.out bel) (fun x w2 hx hb2 => woClo2 ⟨bb, bn⟩ x _ w2 HB.out (blkOk_true.1 (List.all_eq_true.1 HE.out x hx)).2.2.1 (blkOk_true.1 (List.all_eq_true.1 HE.out x hx)).2.2.2.1 (cell_to q0 hb2) (cell_to q1 hb2))).mono ?_; rw [h2]; rintro e w2 ⟨rfl, hb2⟩; obtain ⟨hc2, hf2⟩ := bcell hb2; have hz2 := hb_lt hb2; have r0 := cell_to q0 hb2; have r1 := cell_to q1 hb2))
        go_ret
        refine ⟨⟨_, rfl, ?_⟩, bel⟩
        rw [HF.out]
        exact own_built w2 [.int .i64 bb, .int .i64 bn] w.heap.size _ 2 1 (by have := (show Below w.heap.size w w2 from bel).size; omega) rfl (by unfold maxLen; omega)
      · have hlt : bn < 32 := by
          rcases Int.lt_or_le bn 32 with h | h
          · exact h
          · obtain ⟨e, hem, hei⟩ := List.any_eq_true.1 h2
            have := List.any_eq_true.2 ⟨e, hem, inn_full (List.all_eq_true.1 HE.out e hem) HB.out hei (show bn = 32 by omega)⟩
            rw [h1] at this; cases this
        have HF := hid (show wout (f + 1) ⟨bb, bn⟩ ex = wout f ⟨bb, bn + 1⟩ ex ++ wout f ⟨bb + pw (bn + 1), bn + 1⟩ ex by rw [wout, h1, h2]; rfl)
        have HL := hid (low_ok HB.out hlt)
        have HH := hid (high_ok HB.out hlt)
        have HL2 := hid (wout_le f HL.out HE.out hl)
        have HH2 := hid (wout_le f HH.out HE.out hl)
        have M1 := hid True.intro
        go_enter Tryz.func233, Tryz.ntmps233
        go_wp2_with (first
          | (go_at_call 235; have m1 := M1.out; refine (anyBlkW1 (inn ⟨bb, bn⟩) _ _ _ _ _ (rdBlks.to HR.out bel) (fun x w2 hx hb2 => woClo1 ⟨bb, bn⟩ x _ w2 (List.all_eq_true.1 HE.out x hx) hb3 hb4 (cell_to (by simp [go_sem]) hb2) (cell_to (by simp [go_sem]) hb2))).mono ?_; rw [h1]; rintro e w1 ⟨rfl, hb1⟩; obtain ⟨hc1, hf1⟩ := bcell hb1; have hz1 := hb_lt hb1; clear M1 m1; have q0 : w1.cell? ⟨w.heap.size, 0, none⟩ = some (.int .i64 bb) := cell_to (by simp [go_sem]) hb1; have q1 : w1.cell? ⟨w.heap.size, 1, none⟩ = some (.int .i64 bn) := cell_to (by simp [go_sem]) hb1)
          | (go_at_call 235; refine (anyBlkW2 (fun e => inn e ⟨bb, bn⟩) _ _ _ _ _ (rdBlks.to HR.out bel) (fun x w2 hx hb2 => woClo2 ⟨bb, bn⟩ x _ w2 HB.out (blkOk_true.1 (List.all_eq_true.1 HE.out x hx)).2.2.1 (blkOk_true.1 (List.all_eq_true.1 HE.out x hx)).2.2.2.1 (cell_to q0 hb2) (cell_to q1 hb2))).mono ?_; rw [h2]; rintro e w2 ⟨rfl, hb2⟩; obtain ⟨hc2, hf2⟩ := bcell hb2; have hz2 := hb_lt hb2; have r0 := cell_to q0 hb2; have r1 := cell_to q1 hb2)
          | (go_at_call 239; refine (halves_any ⟨bb, bn⟩ _ HB.out hlt).mono ?_; rintro e w3 ⟨rfl, hb3⟩; obtain ⟨hc3, hf3⟩ := bcell hb3; have hz3 := hb_lt hb3))
        have hBW : Below w.heap.size w ((w3.alloc (.cells #[.int .i64 bb, .int .i64 (bn + 1)] 47)).alloc (.cells #[.int .i64 (bb + pw (bn + 1)), .int .i64 (bn + 1)] 47)) := bel
        have s0 : ((w3.alloc (.cells #[.int .i64 bb, .int .i64 (bn + 1)] 47)).alloc (.cells #[.int .i64 (bb + pw (bn + 1)), .int .i64 (bn + 1)] 47)).cell? ⟨w3.heap.size, 0, none⟩ = some (.int .i64 bb) := by simp [go_sem]
        have s1 : ((w3.alloc (.cells #[.int .i64 bb, .int .i64 (bn + 1)] 47)).alloc (.cells #[.int .i64 (bb + pw (bn + 1)), .int .i64 (bn + 1)] 47)).cell? ⟨w3.heap.size, 1, none⟩ = some (.int .i64 (bn + 1)) := by simp [go_sem]
        have s2 : ((w3.alloc (.cells #[.int .i64 bb, .int .i64 (bn + 1)] 47)).alloc (.cells #[.int .i64 (bb + pw (bn + 1)), .int .i64 (bn + 1)] 47)).cell? ⟨w3.heap.size + 1, 0, none⟩ = some (.int .i64 (bb + pw (bn + 1))) := by simp [go_sem]
        have s3 : ((w3.alloc (.cells #[.int .i64 bb, .int .i64 (bn + 1)] 47)).alloc (.cells #[.int .i64 (bb + pw (bn + 1)), .int .i64 (bn + 1)] 47)).cell? ⟨w3.heap.size + 1, 1, none⟩ = some (.int .i64 (bn + 1)) := by simp [go_sem]
        generalize (w3.alloc (.cells #[.int .i64 bb, .int .i64 (bn + 1)] 47)).alloc (.cells #[.int .i64 (bb + pw (bn + 1)), .int .i64 (bn + 1)] 47) = W at hBW s0 s1 s2 s3 ⊢
        have HBW := hid hBW
        have hWs := hBW.size
        have M2 := hid True.intro
        clear hb1 hc1 hf1 hz1 q0 q1 hb2 hc2 hf2 hz2 r0 r1 hb3 hc3 hf3 hz3 hBW hmf
        have t0 : W.drew.cell? ⟨w3.heap.size, 0, none⟩ = some (.int .i64 bb) := s0
        have t1 : W.drew.cell? ⟨w3.heap.size, 1, none⟩ = some (.int .i64 (bn + 1)) := s1
        have t2 : W.drew.cell? ⟨w3.heap.size + 1, 0, none⟩ = some (.int .i64 (bb + pw (bn + 1))) := s2
        have t3 : W.drew.cell? ⟨w3.heap.size + 1, 1, none⟩ = some (.int .i64 (bn + 1)) := s3
        go_region_held3 (fun w' => w'.cell? ⟨w3.heap.size, 0, none⟩ = some (.int .i64 bb) ∧ w'.cell? ⟨w3.heap.size, 1, none⟩ = some (.int .i64 (bn + 1)) ∧ w'.cell? ⟨w3.heap.size + 1, 0, none⟩ = some (.int .i64 (bb + pw (bn + 1))) ∧ w'.cell? ⟨w3.heap.size + 1, 1, none⟩ = some (.int .i64 (bn + 1))) (go_keep) (first
          | (go_at_call 233; have m2 := M2.out; refine (IH.out bb (bn + 1) ea ec ex W.drew HL.out HE.out hl (by omega) (rdBlks.ext (HBW.out.drew) (by show w.heap.size ≤ W.heap.size; omega) HR.out)).mono ?_; rintro e w4 ⟨⟨v4, rfl, ho4⟩, hb4⟩; obtain ⟨a4, c4, rfl, hc4, _⟩ := own_slice ho4; have HO4 := hid ho4; have HB4 := hid hb4; have u0 := cell_to t0 hb4; have u1 := cell_to t1 hb4; have u2 := cell_to t2 hb4; have u3 := cell_to t3 hb4; clear ho4 M2 m2)
          | (go_at_call 233; refine (IH.out (bb + pw (bn + 1)) (bn + 1) ea ec ex w4 HH.out HE.out hl (by omega) (rdBlks.ext (HBW.out.drew.trans (HB4.out.mono (by show w.heap.size ≤ W.heap.size; omega))) (by have := HB4.out.size; have h2 : W.drew.heap.size = W.heap.size := rfl; omega) HR.out)).mono ?_; rintro e w5 ⟨⟨v5, rfl, ho5⟩, hb5⟩; obtain ⟨a5, c5, rfl, hc5, _⟩ := own_slice ho5; have HO5 := hid ho5; have HB5 := hid hb5; have x0 := cell_to u0 hb5; have x1 := cell_to u1 hb5; have x2 := cell_to u2 hb5; have x3 := cell_to u3 hb5; clear ho5)
          | ((refine step_append_list w5 (by rfl) (.tmp 23) (.tmp 26) 67 (by rfl) w.heap.size 47 i0 _ 2 16 Tryz.underlying67 hi iz0 iz1 iz2 rfl (by decide) _ _ _ (by rfl) (own_le (own_to HO4.out HB5.out) (by show w.heap.size ≤ W.heap.size; omega)) a5 _ c5 ((wout f ⟨bb + pw (bn + 1), bn + 1⟩ ex).flatMap encBlk) (by rfl) (oflat_len (k := 2) (fun _ => rfl) _) (news_blks HO5.out) (encBlk_one _) (wl_max HL2.out HH2.out) (wl_bytes HL2.out HH2.out) (by have := HB5.out.size; have h4 := HB4.out.size; have h2 : W.drew.heap.size = W.heap.size := rfl; omega) ?_; intro v' w6 hown6 hg6; have y0 := grown_low hg6 HO4.out (show w3.heap.size < W.heap.size from cell_lt s0) x0; have y1 := grown_low hg6 HO4.out (show w3.heap.size < W.heap.size from cell_lt s0) x1; have y2 := grown_low hg6 HO4.out (show w3.heap.size + 1 < W.heap.size from cell_lt s2) x2; have y3 := grown_low hg6 HO4.out (show w3.heap.size + 1 < W.heap.size from cell_lt s2) x3; have HO6 := hid hown6; have HG6 := hid hg6; clear hown6 hg6)))
        go_wp2
        go_ret
        refine ⟨⟨_, rfl, ?_⟩, ?_⟩
        · rw [HF.out, List.length_append, List.flatMap_append]; exact HO6.out
        · refine Below.grown (HBW.out.drew.trans ((HB4.out.mono (show w.heap.size ≤ W.heap.size by omega)).trans (HB5.out.mono (by have h4 := HB4.out.size; have h2 : W.drew.heap.size = W.heap.size := rfl; omega)))) HG6.out (by have := HB5.out.size; have h4 := HB4.out.size; have h2 : W.drew.heap.size = W.heap.size := rfl; omega) (fun k hk => by have := (HO4.out.lt k hk).1; have h2 : W.drew.heap.size = W.heap.size := rfl; omega)
    · have HF := hid (show wout (f + 1) ⟨bb, bn⟩ ex = [] by rw [wout, h1]; rfl)
      go_enter Tryz.func233, Tryz.ntmps233
      go_wp2_with (go_at_call 235; refine (anyBlkW1 (inn ⟨bb, bn⟩) _ _ _ _ _ (rdBlks.to HR.out bel) (fun x w2 hx hb2 => woClo1 ⟨bb, bn⟩ x _ w2 (List.all_eq_true.1 HE.out x hx) hb3 hb4 (cell_to (by simp [go_sem]) hb2) (cell_to (by simp [go_sem]) hb2))).mono ?_; rw [h1]; rintro e w1 ⟨rfl, hb1⟩; obtain ⟨hc1, hf1⟩ := bcell hb1; have hz1 := hb_lt hb1)
      go_ret
      exact ⟨⟨_, rfl, by rw [HF.out]; exact World.ownsRow_nil _ _ _ _⟩, bel⟩
end Go.Proofs.YtmkjlhplgcifiaaGreat
namespace Go.Proofs.YtmkjlhplgcifiaaGreat
open Go.ChangeShapes Go.WideShapes Go.ChangeAt Go.RowKit
set_option linter.unusedVariables false
set_option linter.unusedSimpArgs false
structure DRow where
  sb : Int
  sn : Int
  db : Int
  dn : Int
  proto : Int
  lo : Int
  hi : Int
  allow : Bool
def encRow (r : DRow) : List Value := [.int .i64 r.sb, .int .i64 r.sn, .int .i64 r.db, .int .i64 r.dn, .int .i64 r.proto, .int .i64 r.lo, .int .i64 r.hi, .bool r.allow]
def cmpI (a b : Int) : Int := if a < b then -1 else if b < a then 1 else 0
def orI : List Int → Int
  | [] => 0
  | a :: l => if a = 0 then orI l else a
def lexC : List Int → List Int → Int
  | a :: s, b :: t => if cmpI a b = 0 then lexC s t else cmpI a b
  | _, _ => 0
def rowKey (r : DRow) : List Int := [r.sb, r.sn, r.db, r.dn, r.proto, r.lo, r.hi]
def cmpRow (x y : DRow) : Int := orI [orI [cmpI x.sb y.sb, cmpI x.sn y.sn], orI [cmpI x.db y.db, cmpI x.dn y.dn], cmpI x.proto y.proto, cmpI x.lo y.lo, cmpI x.hi y.hi]
theorem cmpI_zero {a b : Int} : cmpI a b = 0 ↔ a = b := by unfold cmpI; split <;> (try split) <;> omega
theorem cmpI_neg {a b : Int} : cmpI a b < 0 ↔ a < b := by unfold cmpI; split <;> (try split) <;> omega
theorem cmpRow_lex (x y : DRow) : cmpRow x y = lexC (rowKey x) (rowKey y) := by
  unfold cmpRow rowKey
  simp only [orI, lexC]
  repeat' split
  all_goals first | rfl | simp_all
theorem lexC_self : ∀ s : List Int, lexC s s = 0
  | [] => rfl
  | a :: s => by rw [lexC, if_pos (cmpI_zero.2 rfl), lexC_self s]
theorem lexC_trans : ∀ s t u : List Int, s.length = t.length → t.length = u.length → lexC s t < 0 → lexC t u < 0 → lexC s u < 0
  | [], _, _, _, _, h, _ => by simp [lexC] at h
  | _ :: _, [], _, h, _, _, _ => by simp at h
  | _ :: _, _ :: _, [], _, h, _, _ => by simp at h
  | a :: s, b :: t, c :: u, h1, h2, h3, h4 => by
    rw [lexC] at *
    have ih := lexC_trans s t u (by simpa using h1) (by simpa using h2)
    by_cases e1 : cmpI a b = 0
    · rw [if_pos e1] at h3
      have e1' := cmpI_zero.1 e1
      subst e1'
      by_cases e2 : cmpI a c = 0
      · rw [if_pos e2] at h4 ⊢; exact ih h3 h4
      · rw [if_neg e2] at h4 ⊢; exact h4
    · rw [if_neg e1] at h3
      by_cases e2 : cmpI b c = 0
      · rw [cmpI_zero] at e2; subst e2; rw [if_neg e1]; exact h3
      · rw [if_neg e2] at h4
        have h5 : a < c := by have := cmpI_neg.1 h3; have := cmpI_neg.1 h4; omega
        rw [if_neg (fun h => by have := cmpI_zero.1 h; omega)]
        exact cmpI_neg.2 h5
theorem lexC_ntrans : ∀ s t u : List Int, s.length = t.length → t.length = u.length → ¬ lexC s t < 0 → ¬ lexC t u < 0 → ¬ lexC s u < 0
  | [], _, _, _, _, _, _ => by simp [lexC]
  | _ :: _, [], _, h, _, _, _ => by simp at h
  | _ :: _, _ :: _, [], _, h, _, _ => by simp at h
  | a :: s, b :: t, c :: u, h1, h2, h3, h4 => by
    rw [lexC] at *
    have ih := lexC_ntrans s t u (by simpa using h1) (by simpa using h2)
    by_cases e1 : cmpI a b = 0
    · rw [if_pos e1] at h3
      have e1' := cmpI_zero.1 e1
      subst e1'
      by_cases e2 : cmpI a c = 0
      · rw [if_pos e2] at h4 ⊢; exact ih h3 h4
      · rw [if_neg e2] at h4 ⊢; exact h4
    · rw [if_neg e1] at h3
      by_cases e2 : cmpI b c = 0
      · rw [cmpI_zero] at e2; subst e2; rw [if_neg e1]; exact h3
      · rw [if_neg e2] at h4
        rw [cmpI_neg] at h3 h4
        have h5 : c < a := by
          have n1 : ¬ a = b := fun h => e1 (cmpI_zero.2 h)
          have n2 : ¬ b = c := fun h => e2 (cmpI_zero.2 h)
          omega
        rw [if_neg (fun h => by have := cmpI_zero.1 h; omega), cmpI_neg]
        omega
theorem swoRow : Go.Sort.SWO (ltOf cmpRow) where
  irrefl x := by unfold ltOf; rw [cmpRow_lex, lexC_self]; rfl
  trans x y z h1 h2 := by
    unfold ltOf at *; rw [cmpRow_lex] at *
    simp only [decide_eq_true_eq] at *
    exact lexC_trans _ (rowKey y) _ rfl rfl h1 h2
  ntrans x y z h1 h2 := by
    unfold ltOf at *; rw [cmpRow_lex] at *
    simp only [decide_eq_false_iff_not] at *
    exact lexC_ntrans _ (rowKey y) _ rfl rfl h1 h2
theorem isNaN_any (x : Int) (w : World) : Calls Tryz.prog 186 #[.int .i64 x] w fun e w' => e = .returned (.bool false) ∧ w' = w := by
  go_enter Tryz.func186, Tryz.ntmps186
  go_wp2
  go_ret
  simp
theorem cmpInt_any (x y : Int) (w : World) : Calls Tryz.prog 182 #[.int .i64 x, .int .i64 y] w fun e w' => e = .returned (.int .i64 (cmpI x y)) ∧ w' = w := by
  by_cases h1 : x < y
  · have HF := hid (show cmpI x y = -1 by rw [cmpI, if_pos h1])
    go_enter Tryz.func182, Tryz.ntmps182
    go_wp2_with (go_at_call 186; refine (isNaN_any _ _).mono ?_; rintro e w' ⟨rfl, rfl⟩)
    go_ret
    exact ⟨by rw [HF.out]; rfl, rfl⟩
  · by_cases h2 : y < x
    · have HF := hid (show cmpI x y = 1 by rw [cmpI, if_neg h1, if_pos h2])
      go_enter Tryz.func182, Tryz.ntmps182
      go_wp2_with (go_at_call 186; refine (isNaN_any _ _).mono ?_; rintro e w' ⟨rfl, rfl⟩)
      go_ret
      exact ⟨by rw [HF.out]; rfl, rfl⟩
    · have HF := hid (show cmpI x y = 0 by rw [cmpI, if_neg h1, if_neg h2])
      go_enter Tryz.func182, Tryz.ntmps182
      go_wp2_with (go_at_call 186; refine (isNaN_any _ _).mono ?_; rintro e w' ⟨rfl, rfl⟩)
      go_ret
      exact ⟨by rw [HF.out]; rfl, rfl⟩
theorem orI_at : ∀ {l : List Int} {k : Nat} {x : Int}, l[k]? = some x → (∀ y ∈ l.take k, y = 0) → ¬ x = 0 → orI l = x
  | [], _, _, h, _, _ => by simp at h
  | a :: l, 0, x, h, _, hx => by simp at h; subst h; rw [orI, if_neg hx]
  | a :: l, k + 1, x, h, h0, hx => by
    rw [orI, if_pos (h0 a (by simp))]
    exact orI_at (k := k) (by simpa using h) (fun y hy => h0 y (by simp [hy])) hx
theorem orI_none : ∀ {l : List Int}, (∀ y ∈ l, y = 0) → orI l = 0
  | [], _ => rfl
  | a :: l, h => by rw [orI, if_pos (h a (by simp))]; exact orI_none fun y hy => h y (by simp [hy])
theorem or_any (l : List Int) (b cap : Nat) (w : World) (hlen : l.length ≤ 100) (hc : ∀ j v, l[j]? = some v → w.cell? ⟨b, j, none⟩ = some (.int .i64 v)) :
    Calls Tryz.prog 180 #[.slice (some ⟨b, 0, none⟩) l.length cap] w fun e w' => e = .returned (.int .i64 (orI l)) ∧ w' = w := by
  have HC := hid hc
  clear hc
  go_enter Tryz.func180, Tryz.ntmps180
  go_wp2
  go_loopw [8] (fun i wr => ∃ k : Nat, k ≤ l.length ∧ i = .int .i64 k ∧ (∀ y ∈ l.take k, y = 0) ∧ wr = w) (fun i _ => l.length - (intOf i).toNat)
  case atStart => exact ⟨0, Nat.zero_le _, rfl, fun y hy => by simp at hy, rfl⟩
  case round =>
    obtain ⟨k, hk, rfl, hall, rfl⟩ := hrel
    have HA := hid hall
    clear hall
    by_cases hlt : k < l.length
    · obtain ⟨x, hxk⟩ : ∃ x, l[k]? = some x := ⟨l[k], by simp [hlt]⟩
      have HX := hid hxk
      clear hxk
      have c0 := HC.out k x HX.out
      cases hx : (x != 0)
      · go_wp2
        exact ⟨⟨k + 1, by omega, by go_num, fun y hy => by
          rw [List.take_add_one, HX.out] at hy
          rcases List.mem_append.1 hy with h | h
          · exact HA.out y h
          · simp at h; subst h; simpa using hx, trivial⟩, by simp [intOf]; omega⟩
      · have HF := hid (orI_at HX.out HA.out (by simpa using hx))
        go_wp2
        go_ret
        exact ⟨by rw [HF.out]; rfl, rfl⟩
    · have HF := hid (orI_none (l := l) (by have := HA.out; rwa [List.take_of_length_le (by omega)] at this))
      go_wp2
      go_ret
      exact ⟨by rw [HF.out]; rfl, rfl⟩
theorem cells_new_ints (X : World) (l : List Int) (t : TypeId) : ∀ j v, l[j]? = some v → (X.alloc (.cells (l.map (Value.int .i64)).toArray t)).cell? ⟨X.heap.size, j, none⟩ = some (.int .i64 v) := fun j v h => by simp [h]
theorem cells_new_2 (X : World) (a b : Int) (t : TypeId) : ∀ j v, [a, b][j]? = some v → (X.alloc (.cells #[.int .i64 a, .int .i64 b] t)).cell? ⟨X.heap.size, j, none⟩ = some (.int .i64 v) := cells_new_ints X [a, b] t
theorem cells_new_5 (X : World) (a b c d e : Int) (t : TypeId) : ∀ j v, [a, b, c, d, e][j]? = some v → (X.alloc (.cells #[.int .i64 a, .int .i64 b, .int .i64 c, .int .i64 d, .int .i64 e] t)).cell? ⟨X.heap.size, j, none⟩ = some (.int .i64 v) := cells_new_ints X [a, b, c, d, e] t
theorem take_10 {α : Type} (a0 a1 a2 a3 a4 a5 a6 a7 a8 a9 : α) (r : List α) : (a0 :: a1 :: a2 :: a3 :: a4 :: a5 :: a6 :: a7 :: a8 :: a9 :: r).take 10 = [a0, a1, a2, a3, a4, a5, a6, a7, a8, a9] := rfl
theorem drop_10 {α : Type} (a0 a1 a2 a3 a4 a5 a6 a7 a8 a9 : α) (r : List α) : (a0 :: a1 :: a2 :: a3 :: a4 :: a5 :: a6 :: a7 :: a8 :: a9 :: r).drop 10 = r := rfl
theorem cmpBlk_any (x0 x1 y0 y1 : Int) (w : World) : Calls Tryz.prog 181 #[.agg #[.int .i64 x0, .int .i64 x1], .agg #[.int .i64 y0, .int .i64 y1]] w fun e w' => e = .returned (.int .i64 (orI [cmpI x0 y0, cmpI x1 y1])) ∧ ∃ q os, w' = Go.Sort.grow (w.drewN q) os := by
  go_enter Tryz.func181, Tryz.ntmps181
  go_wp2
  obtain ⟨W, hW⟩ : ∃ W, W = (w.alloc (.cells #[.int .i64 x0, .int .i64 x1] 47)).alloc (.cells #[.int .i64 y0, .int .i64 y1] 47) := ⟨_, rfl⟩
  have c0 : ∀ n os, (Go.Sort.grow (W.drewN n) os).cell? ⟨w.heap.size, 0, none⟩ = some (.int .i64 x0) := fun n os => cell_grown (by rw [hW]; simp; omega) (by rw [hW]; simp [go_sem]) n os
  have c1 : ∀ n os, (Go.Sort.grow (W.drewN n) os).cell? ⟨w.heap.size, 1, none⟩ = some (.int .i64 x1) := fun n os => cell_grown (by rw [hW]; simp; omega) (by rw [hW]; simp [go_sem]) n os
  have c2 : ∀ n os, (Go.Sort.grow (W.drewN n) os).cell? ⟨w.heap.size + 1, 0, none⟩ = some (.int .i64 y0) := fun n os => cell_grown (by rw [hW]; simp) (by rw [hW]; simp [go_sem]) n os
  have c3 : ∀ n os, (Go.Sort.grow (W.drewN n) os).cell? ⟨w.heap.size + 1, 1, none⟩ = some (.int .i64 y1) := fun n os => cell_grown (by rw [hW]; simp) (by rw [hW]; simp [go_sem]) n os
  have HW : ∀ q os, ∃ q' os', Go.Sort.grow (W.drewN q) os = Go.Sort.grow (w.drewN q') os' := fun q os => ⟨q, _, by rw [hW, Go.Sort.alloc_eq_grow, Go.Sort.alloc_eq_grow, Go.Sort.grow_grow]; exact Go.Sort.grow_grow (w.drewN q) _ os⟩
  rw [← hW]
  have HH := hid HW
  clear hW HW
  refine wp_region_quiet_tail (C := fun w' => ∃ p : GrownBy, w' = Go.Sort.grow (W.drewN p.n) p.os) 10 (by kernel_rfl) (by kernel_rfl) (by kernel_rfl) ⟨⟨1, #[]⟩, by rw [Go.Sort.grow_empty]; rfl⟩ ?_
  simp only [take_10, drop_10]
  repeat (quiet_step (first | (go_at_call 182; exact (cmpInt_any _ _ _).mono fun e w' ⟨he, hw⟩ => ⟨he, ⟨⟨_, _⟩, hw⟩⟩)))
  refine wpQuiet_nil ?_
  rintro X ⟨⟨q, os⟩, hX⟩
  have HX := hid (hX ▸ HH.out q os)
  clear hX
  go_wp2_with (go_at_call 180; refine (or_any [cmpI x0 y0, cmpI x1 y1] _ _ _ (by simp) (cells_new_2 X _ _ _)).mono ?_; rintro e w' ⟨rfl, rfl⟩)
  go_ret
  refine ⟨rfl, ?_⟩
  obtain ⟨q', os', h⟩ := HX.out
  exact ⟨q', os' ++ #[_], by rw [h, Go.Sort.alloc_eq_grow, Go.Sort.grow_grow]⟩
theorem take_25 {α : Type} (a0 a1 a2 a3 a4 a5 a6 a7 a8 a9 b0 b1 b2 b3 b4 b5 b6 b7 b8 b9 c0 c1 c2 c3 c4 : α) (r : List α) : (a0 :: a1 :: a2 :: a3 :: a4 :: a5 :: a6 :: a7 :: a8 :: a9 :: b0 :: b1 :: b2 :: b3 :: b4 :: b5 :: b6 :: b7 :: b8 :: b9 :: c0 :: c1 :: c2 :: c3 :: c4 :: r).take 25 = [a0, a1, a2, a3, a4, a5, a6, a7, a8, a9, b0, b1, b2, b3, b4, b5, b6, b7, b8, b9, c0, c1, c2, c3, c4] := rfl
theorem drop_25 {α : Type} (a0 a1 a2 a3 a4 a5 a6 a7 a8 a9 b0 b1 b2 b3 b4 b5 b6 b7 b8 b9 c0 c1 c2 c3 c4 : α) (r : List α) : (a0 :: a1 :: a2 :: a3 :: a4 :: a5 :: a6 :: a7 :: a8 :: a9 :: b0 :: b1 :: b2 :: b3 :: b4 :: b5 :: b6 :: b7 :: b8 :: b9 :: c0 :: c1 :: c2 :: c3 :: c4 :: r).drop 25 = r := rfl
set_option maxHeartbeats 1000000 in
theorem cmpRow_any (x y : DRow) (w : World) : Calls Tryz.prog 165 #[.agg #[.int .i64 x.sb, .int .i64 x.sn, .int .i64 x.db, .int .i64 x.dn, .int .i64 x.proto, .int .i64 x.lo, .int .i64 x.hi, .bool x.allow], .agg #[.int .i64 y.sb, .int .i64 y.sn, .int .i64 y.db, .int .i64 y.dn, .int .i64 y.proto, .int .i64 y.lo, .int .i64 y.hi, .bool y.allow]] w fun e w' => e = .returned (.int .i64 (cmpRow x y)) ∧ ∃ q os, w' = Go.Sort.grow (w.drewN q) os := by
  have HF := hid (show cmpRow x y = orI [orI [cmpI x.sb y.sb, cmpI x.sn y.sn], orI [cmpI x.db y.db, cmpI x.dn y.dn], cmpI x.proto y.proto, cmpI x.lo y.lo, cmpI x.hi y.hi] from rfl)
  go_enter Tryz.func165, Tryz.ntmps165
  go_wp2
  obtain ⟨W, hW⟩ : ∃ W, W = (w.alloc (.cells #[.int .i64 x.sb, .int .i64 x.sn, .int .i64 x.db, .int .i64 x.dn, .int .i64 x.proto, .int .i64 x.lo, .int .i64 x.hi, .bool x.allow] 49)).alloc (.cells #[.int .i64 y.sb, .int .i64 y.sn, .int .i64 y.db, .int .i64 y.dn, .int .i64 y.proto, .int .i64 y.lo, .int .i64 y.hi, .bool y.allow] 49) := ⟨_, rfl⟩
  have c0 : ∀ n os, (Go.Sort.grow (W.drewN n) os).cell? ⟨w.heap.size, 0, none⟩ = some (.int .i64 x.sb) := fun n os => cell_grown (by rw [hW]; simp; omega) (by rw [hW]; simp [go_sem]) n os
  have d0 : ∀ n os, (Go.Sort.grow (W.drewN n) os).cell? ⟨w.heap.size + 1, 0, none⟩ = some (.int .i64 y.sb) := fun n os => cell_grown (by rw [hW]; simp) (by rw [hW]; simp [go_sem]) n os
  have c1 : ∀ n os, (Go.Sort.grow (W.drewN n) os).cell? ⟨w.heap.size, 1, none⟩ = some (.int .i64 x.sn) := fun n os => cell_grown (by rw [hW]; simp; omega) (by rw [hW]; simp [go_sem]) n os
  have d1 : ∀ n os, (Go.Sort.grow (W.drewN n) os).cell? ⟨w.heap.size + 1, 1, none⟩ = some (.int .i64 y.sn) := fun n os => cell_grown (by rw [hW]; simp) (by rw [hW]; simp [go_sem]) n os
  have c2 : ∀ n os, (Go.Sort.grow (W.drewN n) os).cell? ⟨w.heap.size, 2, none⟩ = some (.int .i64 x.db) := fun n os => cell_grown (by rw [hW]; simp; omega) (by rw [hW]; simp [go_sem]) n os
  have d2 : ∀ n os, (Go.Sort.grow (W.drewN n) os).cell? ⟨w.heap.size + 1, 2, none⟩ = some (.int .i64 y.db) := fun n os => cell_grown (by rw [hW]; simp) (by rw [hW]; simp [go_sem]) n os
  have c3 : ∀ n os, (Go.Sort.grow (W.drewN n) os).cell? ⟨w.heap.size, 3, none⟩ = some (.int .i64 x.dn) := fun n os => cell_grown (by rw [hW]; simp; omega) (by rw [hW]; simp [go_sem]) n os
  have d3 : ∀ n os, (Go.Sort.grow (W.drewN n) os).cell? ⟨w.heap.size + 1, 3, none⟩ = some (.int .i64 y.dn) := fun n os => cell_grown (by rw [hW]; simp) (by rw [hW]; simp [go_sem]) n os
  have c4 : ∀ n os, (Go.Sort.grow (W.drewN n) os).cell? ⟨w.heap.size, 4, none⟩ = some (.int .i64 x.proto) := fun n os => cell_grown (by rw [hW]; simp; omega) (by rw [hW]; simp [go_sem]) n os
  have d4 : ∀ n os, (Go.Sort.grow (W.drewN n) os).cell? ⟨w.heap.size + 1, 4, none⟩ = some (.int .i64 y.proto) := fun n os => cell_grown (by rw [hW]; simp) (by rw [hW]; simp [go_sem]) n os
  have c5 : ∀ n os, (Go.Sort.grow (W.drewN n) os).cell? ⟨w.heap.size, 5, none⟩ = some (.int .i64 x.lo) := fun n os => cell_grown (by rw [hW]; simp; omega) (by rw [hW]; simp [go_sem]) n os
  have d5 : ∀ n os, (Go.Sort.grow (W.drewN n) os).cell? ⟨w.heap.size + 1, 5, none⟩ = some (.int .i64 y.lo) := fun n os => cell_grown (by rw [hW]; simp) (by rw [hW]; simp [go_sem]) n os
  have c6 : ∀ n os, (Go.Sort.grow (W.drewN n) os).cell? ⟨w.heap.size, 6, none⟩ = some (.int .i64 x.hi) := fun n os => cell_grown (by rw [hW]; simp; omega) (by rw [hW]; simp [go_sem]) n os
  have d6 : ∀ n os, (Go.Sort.grow (W.drewN n) os).cell? ⟨w.heap.size + 1, 6, none⟩ = some (.int .i64 y.hi) := fun n os => cell_grown (by rw [hW]; simp) (by rw [hW]; simp [go_sem]) n os
  have HW : ∀ q os, ∃ q' os', Go.Sort.grow (W.drewN q) os = Go.Sort.grow (w.drewN q') os' := fun q os => ⟨q, _, by rw [hW, Go.Sort.alloc_eq_grow, Go.Sort.alloc_eq_grow, Go.Sort.grow_grow]; exact Go.Sort.grow_grow (w.drewN q) _ os⟩
  rw [← hW]
  have HH := hid HW
  clear hW HW
  refine wp_region_quiet_tail (C := fun w' => ∃ p : GrownBy, w' = Go.Sort.grow (W.drewN p.n) p.os) 25 (by kernel_rfl) (by kernel_rfl) (by kernel_rfl) ⟨⟨1, #[]⟩, by rw [Go.Sort.grow_empty]; rfl⟩ ?_
  simp only [take_25, drop_25]
  repeat (quiet_step (first
    | (go_at_call 182; exact (cmpInt_any _ _ _).mono fun e w' ⟨he, hw⟩ => ⟨he, ⟨⟨_, _⟩, hw⟩⟩)
    | (go_at_call 181; exact Calls.grown_of (cmpBlk_any _ _ _ _ _))))
  refine wpQuiet_nil ?_
  rintro X ⟨⟨q, os⟩, hX⟩
  have HX := hid (hX ▸ HH.out q os)
  clear hX
  go_wp2_with (go_at_call 180; refine (or_any [orI [cmpI x.sb y.sb, cmpI x.sn y.sn], orI [cmpI x.db y.db, cmpI x.dn y.dn], cmpI x.proto y.proto, cmpI x.lo y.lo, cmpI x.hi y.hi] _ _ _ (by simp) (cells_new_5 X _ _ _ _ _ _)).mono ?_; rintro e w' ⟨rfl, rfl⟩)
  go_ret
  refine ⟨by rw [HF.out]; rfl, ?_⟩
  obtain ⟨q', os', h⟩ := HX.out
  exact ⟨q', os' ++ #[_], by rw [h, Go.Sort.alloc_eq_grow, Go.Sort.grow_grow]⟩
end Go.Proofs.YtmkjlhplgcifiaaGreat
