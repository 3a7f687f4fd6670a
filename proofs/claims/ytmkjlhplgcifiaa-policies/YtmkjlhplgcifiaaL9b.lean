/-
  Rules and policies: what fits, what applies, what is let go.
-/
import Derived.Test.YtmkjlhplgcifiaaL9
namespace Go.Proofs.Ytmkjlhplgcifiaa
open Go.ChangeShapes Go.WideShapes Go.ChangeAt Go.RowKit
attribute [local simp] World.cell?_grow
attribute [local go_sem] World.cell?_grow
attribute [local go_sem] eqg_blk std_blk eqg_pod std_pod eqg_sel std_sel eqg_prt std_prt
attribute [local go_sem ↓] eql_blk eql_sel neq_sel eql_prt eql_pod
attribute [local go_sem ↓] met_in1 met_in2 met_re1 met_re2
attribute [local go_sem ↓] met_has1 met_has2
set_option linter.unusedVariables false
set_option linter.unusedSimpArgs false

theorem ways_fin : ∀ a : Fin 4, ∀ b : Fin 2, (bits .and .i64 (a.val : Int) ((b.val : Int) + 1) != 0) = hasWay a.val (b.val + 1) := by decide +kernel
theorem ways_eq (ways way : Int) (h0 : 1 ≤ ways) (h1 : ways ≤ 3) (hw : way = 1 ∨ way = 2) : (bits .and .i64 ways way != 0) = hasWay ways way := by
  obtain ⟨a, rfl⟩ := Int.eq_ofNat_of_zero_le (show 0 ≤ ways by omega)
  rcases hw with rfl | rfl
  · exact ways_fin ⟨a, by omega⟩ ⟨0, by omega⟩
  · exact ways_fin ⟨a, by omega⟩ ⟨1, by omega⟩
theorem few_way (l : List DRule) (b : Bool) : few l (if b then 2 else 0) rulOk = rulesOk l b := by
  unfold rulesOk few
  cases b
  · by_cases h : l.length = 0
    · simp [h]
    · have : ¬ ((l.length : Int) ≤ 0) := by omega
      simp [this, h]
  · simp
theorem polOk_most (p : DPol) (h : btw p.ways 1 3 = true) : polOk p = (btw p.space 0 3 && selOk p.need p.ban && few p.outs (most p.ways 1) rulOk && few p.ins (most p.ways 2) rulOk) := by
  have h' := btw_true.1 h
  have e1 : most p.ways 1 = if decide (p.ways % 2 = 1) then 2 else 0 := by
    unfold most
    by_cases h1 : p.ways % 2 = 1
    · rw [if_pos (by omega)]; simp [h1]
    · rw [if_neg (by omega)]; simp [h1]
  have e2 : most p.ways 2 = if decide (p.ways / 2 = 1) then 2 else 0 := by
    unfold most
    by_cases h1 : p.ways / 2 = 1
    · rw [if_pos (by omega)]; simp [h1]
    · rw [if_neg (by omega)]; simp [h1]
  rw [e1, e2, few_way, few_way, polOk, h]
  simp

set_option maxHeartbeats 1000000 in
theorem polRight_any (p : DPol) (oa ia : Option Addr) (oc ic : Nat) (w : World) (ho : rdRules w.heap.size w oa p.outs) (hi : rdRules w.heap.size w ia p.ins) :
    Calls Try.prog 18 #[.agg #[.int .i64 p.space, .int .i64 p.need, .int .i64 p.ban, .int .i64 p.ways, .slice oa p.outs.length oc, .slice ia p.ins.length ic]] w fun e w' => e = .returned (.bool (polOk p)) ∧ Below w.heap.size w w' := by
  have HO := hid ho
  have HI := hid hi
  clear ho hi
  have HM := hid (polOk_most p)
  go_enter Try.func18, Try.ntmps18
  cases hq1 : btw p.space 0 3
  · have HF := hid (show polOk p = false by rw [polOk, hq1]; rfl)
    go_wp2_with (first
      | (go_at_call 32; refine (mostRules_any _ _).mono ?_; rintro e w' ⟨rfl, rfl⟩)
      | (go_at_call 29; refine (space_any _ _).mono ?_; rintro e w' ⟨rfl, rfl⟩))
    go_ret
    exact ⟨ret_bool (by rw [HF.out]), (by repeat (first | exact Below.refl _ _ | assumption | apply Ext.alloc | apply Ext.drewN | apply Ext.drew | refine Ext.trans ?_ (by assumption)))⟩
  cases hq2 : selOk p.need p.ban
  · have HF := hid (show polOk p = false by rw [polOk, hq1, hq2]; rfl)
    go_wp2_with (first
      | (go_at_call 32; refine (mostRules_any _ _).mono ?_; rintro e w' ⟨rfl, rfl⟩)
      | (go_at_call 29; refine (space_any _ _).mono ?_; rintro e w' ⟨rfl, rfl⟩)
      | (go_at_call 33; refine (selRight_any _ _ _).mono ?_; rintro e w1 ⟨rfl, hb1⟩; obtain ⟨hc1, hf1⟩ := bcell hb1; have hz1 := hb_lt hb1))
    go_ret
    exact ⟨ret_bool (by rw [HF.out]), (by repeat (first | exact Below.refl _ _ | assumption | apply Ext.alloc | apply Ext.drewN | apply Ext.drew | refine Ext.trans ?_ (by assumption)))⟩
  cases hq3 : btw p.ways 1 3
  · have HF := hid (show polOk p = false by rw [polOk, hq1, hq2, hq3]; rfl)
    go_wp2_with (first
      | (go_at_call 32; refine (mostRules_any _ _).mono ?_; rintro e w' ⟨rfl, rfl⟩)
      | (go_at_call 29; refine (space_any _ _).mono ?_; rintro e w' ⟨rfl, rfl⟩)
      | (go_at_call 33; refine (selRight_any _ _ _).mono ?_; rintro e w1 ⟨rfl, hb1⟩; obtain ⟨hc1, hf1⟩ := bcell hb1; have hz1 := hb_lt hb1)
      | (go_at_call 27; refine (within_any _ _ _ _).mono ?_; rintro e w' ⟨rfl, rfl⟩))
    go_ret
    exact ⟨ret_bool (by rw [HF.out]), (by repeat (first | exact Below.refl _ _ | assumption | apply Ext.alloc | apply Ext.drewN | apply Ext.drew | refine Ext.trans ?_ (by assumption)))⟩
  cases hq4 : few p.outs (most p.ways 1) rulOk
  · have HF := hid (show polOk p = false by rw [HM.out hq3, hq1, hq2, hq4]; rfl)
    go_wp2_with (first
      | (go_at_call 32; refine (mostRules_any _ _).mono ?_; rintro e w' ⟨rfl, rfl⟩)
      | (go_at_call 29; refine (space_any _ _).mono ?_; rintro e w' ⟨rfl, rfl⟩)
      | (go_at_call 33; refine (selRight_any _ _ _).mono ?_; rintro e w1 ⟨rfl, hb1⟩; obtain ⟨hc1, hf1⟩ := bcell hb1; have hz1 := hb_lt hb1)
      | (go_at_call 27; refine (within_any _ _ _ _).mono ?_; rintro e w' ⟨rfl, rfl⟩)
      | (go_at_call 34; refine (fewRule rulOk _ _ p.outs _ _ (rdRules.to HO.out (by repeat (first | exact Below.refl _ _ | assumption | apply Ext.alloc | apply Ext.drewN | apply Ext.drew | refine Ext.trans ?_ (by assumption)))) (fun x pa qa pc qc w1 _ _ h1 h2 => ruleRight_any x pa qa pc qc w1 h1 h2)).mono ?_; rw [hq4]; rintro e w2 ⟨rfl, hb2⟩; obtain ⟨hc2, hf2⟩ := bcell hb2; have hz2 := hb_lt hb2))
    go_ret
    exact ⟨ret_bool (by rw [HF.out]), (by repeat (first | exact Below.refl _ _ | assumption | apply Ext.alloc | apply Ext.drewN | apply Ext.drew | refine Ext.trans ?_ (by assumption)))⟩
  have HF := hid (show polOk p = few p.ins (most p.ways 2) rulOk by rw [HM.out hq3, hq1, hq2, hq4]; rfl)
  go_wp2_with (first
    | (go_at_call 32; refine (mostRules_any _ _).mono ?_; rintro e w' ⟨rfl, rfl⟩)
    | (go_at_call 29; refine (space_any _ _).mono ?_; rintro e w' ⟨rfl, rfl⟩)
    | (go_at_call 33; refine (selRight_any _ _ _).mono ?_; rintro e w1 ⟨rfl, hb1⟩; obtain ⟨hc1, hf1⟩ := bcell hb1; have hz1 := hb_lt hb1)
    | (go_at_call 27; refine (within_any _ _ _ _).mono ?_; rintro e w' ⟨rfl, rfl⟩))
  go_at_call 34
  refine (fewRule rulOk _ _ p.outs _ _ (rdRules.to HO.out (by repeat (first | exact Below.refl _ _ | assumption | apply Ext.alloc | apply Ext.drewN | apply Ext.drew | refine Ext.trans ?_ (by assumption)))) (fun x pa qa pc qc w1 _ _ h1 h2 => ruleRight_any x pa qa pc qc w1 h1 h2)).mono ?_
  rw [hq4]
  rintro e w2 ⟨rfl, hb2⟩; obtain ⟨hc2, hf2⟩ := bcell hb2; have hz2 := hb_lt hb2
  go_wp2_with fail
  refine (fewRule rulOk _ _ p.ins _ _ (rdRules.to HI.out (by repeat (first | exact Below.refl _ _ | assumption | apply Ext.alloc | apply Ext.drewN | apply Ext.drew | refine Ext.trans ?_ (by assumption)))) (fun x pa qa pc qc w1 _ _ h1 h2 => ruleRight_any x pa qa pc qc w1 h1 h2)).mono ?_
  rintro e w3 ⟨rfl, hb3⟩; obtain ⟨hc3, hf3⟩ := bcell hb3; have hz3 := hb_lt hb3
  go_wp2
  go_ret
  exact ⟨ret_bool (by rw [HF.out]), (by repeat (first | exact Below.refl _ _ | assumption | apply Ext.alloc | apply Ext.drewN | apply Ext.drew | refine Ext.trans ?_ (by assumption)))⟩
end Go.Proofs.Ytmkjlhplgcifiaa
