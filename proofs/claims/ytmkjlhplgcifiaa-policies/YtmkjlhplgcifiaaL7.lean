/-
  Peers of pods: which addresses one has.
-/
import Derived.Test.YtmkjlhplgcifiaaL10
import Derived.Test.YtmkjlhplgcifiaaK1
namespace Go.Proofs.Ytmkjlhplgcifiaa
open Go.ChangeShapes Go.WideShapes Go.ChangeAt Go.RowKit
attribute [local simp] World.cell?_grow
attribute [local go_sem] World.cell?_grow
attribute [local go_sem] eqg_blk std_blk eqg_pod std_pod eqg_sel std_sel eqg_prt std_prt
attribute [local go_sem ↓] eql_blk eql_sel neq_sel eql_prt eql_pod
attribute [local go_sem ↓] met_in1 met_in2 met_re1 met_re2
set_option linter.unusedVariables false
set_option linter.unusedSimpArgs false

def spaceBit (sp s : Int) : Bool := sp / 2 ^ s.toNat % 2 == 1
def sfrom (spaces own : Int) : Int := if spaces = 0 then 2 ^ own.toNat else spaces

theorem bit_fin : ∀ sp : Fin 16, ∀ s : Fin 4, (bits .and .i64 (sp.val : Int) (wrap64 (2 ^ s.val)) != 0) = (((sp.val : Int) / 2 ^ s.val % 2 == 1) : Bool) := by decide +kernel
theorem bit_eq (sp s : Int) (h0 : 0 ≤ sp) (h1 : sp ≤ 15) (h2 : 0 ≤ s) (h3 : s ≤ 3) : (bits .and .i64 sp (wrap64 (2 ^ s.toNat)) != 0) = spaceBit sp s := by
  obtain ⟨a, rfl⟩ := Int.eq_ofNat_of_zero_le h0
  obtain ⟨b, rfl⟩ := Int.eq_ofNat_of_zero_le h2
  exact bit_fin ⟨a, by omega⟩ ⟨b, by omega⟩
theorem own_fin : ∀ o : Fin 4, ∀ s : Fin 4, ((((2 : Int) ^ o.val) / 2 ^ s.val % 2 == 1) : Bool) = decide ((s.val : Int) = o.val) := by decide +kernel
theorem own_eq (o s : Int) (h0 : 0 ≤ o) (h1 : o ≤ 3) (h2 : 0 ≤ s) (h3 : s ≤ 3) : spaceBit (2 ^ o.toNat) s = decide (s = o) := by
  obtain ⟨a, rfl⟩ := Int.eq_ofNat_of_zero_le h0
  obtain ⟨b, rfl⟩ := Int.eq_ofNat_of_zero_le h2
  exact own_fin ⟨a, by omega⟩ ⟨b, by omega⟩
theorem pow_own : ∀ o : Fin 4, wrap64 ((2 : Int) ^ o.val) = 2 ^ o.val ∧ 0 ≤ (2 : Int) ^ o.val ∧ (2 : Int) ^ o.val ≤ 15 := by decide +kernel
theorem pow_own' (o : Int) (h0 : 0 ≤ o) (h1 : o ≤ 3) : wrap64 ((2 : Int) ^ o.toNat) = 2 ^ o.toNat ∧ 0 ≤ (2 : Int) ^ o.toNat ∧ (2 : Int) ^ o.toNat ≤ 15 := by
  obtain ⟨a, rfl⟩ := Int.eq_ofNat_of_zero_le h0
  exact pow_own ⟨a, by omega⟩

theorem cell_past {w : World} {o : Obj} {a : Addr} {v : Value} (h : w.cell? a = some v) : (w.alloc o).cell? a = some v := by
  rw [World.cell?_alloc_lt _ _ _ (World.block_lt_of_cell? w a h)]; exact h

theorem podsClo (p : DPod) (sp need ban : Int) (sb ob : Nat) (w : World) (hs0 : 0 ≤ p.space) (hs1 : p.space ≤ 3) (hl0 : 0 ≤ p.labels) (hl1 : p.labels ≤ 255)
    (hsp0 : 0 ≤ sp) (hsp1 : sp ≤ 15) (hn0 : 0 ≤ need) (hn1 : need ≤ 255) (hb0 : 0 ≤ ban) (hb1 : ban ≤ 255)
    (c2 : w.cell? ⟨sb, 0, none⟩ = some (.int .i64 sp)) (c3 : w.cell? ⟨ob, 1, none⟩ = some (.int .i64 need)) (c4 : w.cell? ⟨ob, 2, none⟩ = some (.int .i64 ban)) :
    Calls Try.prog 112 #[.agg #[.int .i64 p.host, .int .i64 p.ip, .int .i64 p.space, .int .i64 p.labels], .pointer (some ⟨sb, 0, none⟩), .pointer (some ⟨ob, 0, none⟩)] w
      fun e w' => e = .returned (.bool (spaceBit sp p.space && sels need ban p.labels)) ∧ Below w.heap.size w w' := by
  have l2 := cell_lt c2
  have l3 := cell_lt c3
  have HB := hid (bit_eq sp p.space hsp0 hsp1 hs0 hs1)
  cases hq2 : (bits .and .i64 sp (wrap64 (2 ^ p.space.toNat)) != 0)
  · have HG := hid (show spaceBit sp p.space = false by rw [← HB.out]; exact hq2)
    go_enter Try.func112, Try.ntmps112
    go_wp2
    refine wp_region_grow (by kernel_rfl) (by kernel_rfl) ?_
    repeat (go_big_quiet_step (fail))
    refine wpQuiet_nil ?_
    intro w1 hb1
    obtain ⟨hc1, hf1⟩ := bcell hb1
    have hz1 := hb_lt hb1
    go_wp2
    go_ret
    exact ⟨ret_bool (by rw [HG.out]; simp), (by repeat (first | exact Below.refl _ _ | assumption | apply Ext.alloc | apply Ext.drewN | apply Ext.drew | refine Ext.trans ?_ (by assumption)))⟩
  · have HG := hid (show spaceBit sp p.space = true by rw [← HB.out]; exact hq2)
    go_enter Try.func112, Try.ntmps112
    go_wp2
    refine wp_region_grow (by kernel_rfl) (by kernel_rfl) ?_
    repeat (go_big_quiet_step (first
      | (go_at_call 75; exact Calls.grow_of (selects_any _ _ _ _ _ _ _ hn0 hn1 hb0 hb1 hl0 hl1))))
    refine wpQuiet_nil ?_
    intro w1 hb1
    obtain ⟨hc1, hf1⟩ := bcell hb1
    have hz1 := hb_lt hb1
    go_wp2
    go_ret
    exact ⟨ret_bool (by rw [HG.out]; simp), (by repeat (first | exact Below.refl _ _ | assumption | apply Ext.alloc | apply Ext.drewN | apply Ext.drew | refine Ext.trans ?_ (by assumption)))⟩

theorem spacesFrom_any (x : DPeer) (ea : Option Addr) (en ec : Nat) (own : Int) (w : World) (h0 : 0 ≤ own) (h1 : own ≤ 3) :
    Calls Try.prog 110 #[.agg #[.int .i64 x.kind, .int .i64 x.need, .int .i64 x.ban, .int .i64 x.spaces, .int .i64 x.base, .int .i64 x.bits, .slice ea en ec], .int .i64 own] w fun e w' => e = .returned (.int .i64 (sfrom x.spaces own)) ∧ Below w.heap.size w w' := by
  have HW := hid (pow_own' own h0 h1).1
  by_cases h : x.spaces = 0
  · have HS := hid (show sfrom x.spaces own = 2 ^ own.toNat by rw [sfrom, if_pos h])
    have h2 : (x.spaces == 0) = true := by simp [h]
    clear h
    go_enter Try.func110, Try.ntmps110
    go_wp2
    rw [HW.out]
    go_ret
    exact ⟨by rw [HS.out]; rfl, (by repeat (first | exact Below.refl _ _ | assumption | apply Ext.alloc | apply Ext.drewN | apply Ext.drew | refine Ext.trans ?_ (by assumption)))⟩
  · have HS := hid (show sfrom x.spaces own = x.spaces by rw [sfrom, if_neg h])
    have h2 : (x.spaces == 0) = false := by simp [h]
    clear h
    go_enter Try.func110, Try.ntmps110
    go_wp2
    go_ret
    exact ⟨by rw [HS.out]; rfl, (by repeat (first | exact Below.refl _ _ | assumption | apply Ext.alloc | apply Ext.drewN | apply Ext.drew | refine Ext.trans ?_ (by assumption)))⟩

def podsOk (l : List DPod) : Prop := (∀ p ∈ l, podOk p = true) ∧ l.Pairwise fun a b => a.ip ≠ b.ip
theorem podOk_true {p : DPod} : podOk p = true ↔ (0 ≤ p.host ∧ p.host ≤ 3) ∧ (0 ≤ p.ip ∧ p.ip ≤ 4294967295) ∧ (0 ≤ p.space ∧ p.space ≤ 3) ∧ 0 ≤ p.labels ∧ p.labels ≤ 255 := by
  simp [podOk, btw, and_assoc]
theorem selOk_true {a b : Int} : selOk a b = true ↔ (0 ≤ a ∧ a ≤ 255) ∧ 0 ≤ b ∧ b ≤ 255 := by simp [selOk, btw, and_assoc]

/-- which pods a peer has chosen -/
def chosen (pods : List DPod) (space : Int) (x : DPeer) : List DPod := pods.filter fun p => spaceBit (sfrom x.spaces space) p.space && sels x.need x.ban p.labels
theorem taken_filter (l : List DPod) (ip : Int) (q : DPod → Bool) : (podAt (l.filter q) ip).isSome = l.any fun p => decide (p.ip = ip) && q p := by
  induction l with
  | nil => rfl
  | cons a t ih =>
    unfold podAt at *
    cases hq : q a
    · rw [List.filter_cons_of_neg (by simp [hq]), List.any_cons, hq, Bool.and_false, Bool.false_or]; exact ih
    · rw [List.filter_cons_of_pos hq, List.find?_cons, List.any_cons, hq, Bool.and_true]
      by_cases e : a.ip = ip
      · simp [e]
      · simp only [decide_eq_false e, Bool.false_or]; exact ih

set_option maxHeartbeats 1000000 in
theorem chosen_any (x : DPeer) (ea : Option Addr) (en ec : Nat) (space : Int) (sa : Option Addr) (pods : List DPod) (sc : Nat) (w : World) (hp : rdPods w.heap.size w sa pods) (ho : podsOk pods)
    (hs : selOk x.need x.ban = true) (hsp0 : 0 ≤ x.spaces) (hsp1 : x.spaces ≤ 15) (h0 : 0 ≤ space) (h1 : space ≤ 3) :
    Calls Try.prog 109 #[.agg #[.int .i64 x.kind, .int .i64 x.need, .int .i64 x.ban, .int .i64 x.spaces, .int .i64 x.base, .int .i64 x.bits, .slice ea en ec], .agg #[.int .i64 space, .slice sa pods.length sc]] w
      fun e w' => (∃ a c, e = .returned (.slice a (chosen pods space x).length c) ∧ rdPods w'.heap.size w' a (chosen pods space x)) ∧ Below w.heap.size w w' := by
  have HR := hid hp
  have HO := hid ho
  obtain ⟨⟨hn0, hn1⟩, hb0, hb1'⟩ := selOk_true.1 hs
  have hsf : 0 ≤ sfrom x.spaces space ∧ sfrom x.spaces space ≤ 15 := by
    have := pow_own' space h0 h1
    unfold sfrom
    split <;> omega
  have hmf := mkFunc
  clear hp ho hs
  go_enter Try.func109, Try.ntmps109
  go_wp2_with (first
    | (go_at_call 110; refine (spacesFrom_any x _ _ _ _ _ h0 h1).mono ?_; rintro e w1 ⟨rfl, hb1⟩; obtain ⟨hc1, hf1⟩ := bcell hb1; have hz1 := hb_lt hb1)
    | (go_at_call 111; go_must (refine (keepPod (fun p => spaceBit (sfrom x.spaces space) p.space && sels x.need x.ban p.labels) _ _ _ _ _ _ (rdPods.to HR.out (by repeat (first | exact Below.refl _ _ | assumption | apply Ext.alloc | apply Ext.drewN | apply Ext.drew | refine Ext.trans ?_ (by assumption)))) (fun p w2 hp hb2 => podsClo p _ _ _ _ _ w2 (podOk_true.1 (HO.out.1 p hp)).2.2.1.1 (podOk_true.1 (HO.out.1 p hp)).2.2.1.2 (podOk_true.1 (HO.out.1 p hp)).2.2.2.1 (podOk_true.1 (HO.out.1 p hp)).2.2.2.2 hsf.1 hsf.2 hn0 hn1 hb0 hb1' (cell_to (by simp [go_sem]) hb2) (cell_to (cell_past (cell_to (by simp [go_sem]) hb1)) hb2) (cell_to (cell_past (cell_to (by simp [go_sem]) hb1)) hb2))).mono ?_); rintro e w3 ⟨⟨a', c', rfl, hr3⟩, hb3⟩; have HR3 := hid hr3; clear hr3))
  go_ret
  exact ⟨⟨_, _, rfl, HR3.out⟩, (by repeat (first | exact Below.refl _ _ | assumption | apply Ext.alloc | apply Ext.drewN | apply Ext.drew | refine Ext.trans ?_ (by assumption)))⟩

set_option maxHeartbeats 1000000 in
theorem hasPods_any (x : DPeer) (ea : Option Addr) (en ec : Nat) (ip space : Int) (sa : Option Addr) (pods : List DPod) (sc : Nat) (w : World) (hp : rdPods w.heap.size w sa pods) (ho : podsOk pods)
    (hs : selOk x.need x.ban = true) (hsp0 : 0 ≤ x.spaces) (hsp1 : x.spaces ≤ 15) (h0 : 0 ≤ space) (h1 : space ≤ 3) :
    Calls Try.prog 107 #[.agg #[.int .i64 x.kind, .int .i64 x.need, .int .i64 x.ban, .int .i64 x.spaces, .int .i64 x.base, .int .i64 x.bits, .slice ea en ec], .int .i64 ip, .agg #[.int .i64 space, .slice sa pods.length sc]] w
      fun e w' => e = .returned (.bool (pods.any fun p => decide (p.ip = ip) && (spaceBit (sfrom x.spaces space) p.space && sels x.need x.ban p.labels))) ∧ Below w.heap.size w w' := by
  have HR := hid hp
  have HO := hid ho
  have HS := hid hs
  have HT := hid (taken_filter pods ip fun p => spaceBit (sfrom x.spaces space) p.space && sels x.need x.ban p.labels)
  clear hp ho hs
  go_enter Try.func107, Try.ntmps107
  go_wp2_with (first
    | (go_at_call 109; refine (chosen_any x _ _ _ _ _ _ _ _ (rdPods.to HR.out (by repeat (first | exact Below.refl _ _ | assumption | apply Ext.alloc | apply Ext.drewN | apply Ext.drew | refine Ext.trans ?_ (by assumption)))) HO.out HS.out hsp0 hsp1 h0 h1).mono ?_; rintro e w1 ⟨⟨a', c', rfl, hr1⟩, hb1⟩; have HR1 := hid hr1; clear hr1)
    | (go_at_call 17; refine (taken_any _ _ _ _ _ HR1.out).mono ?_; unfold chosen; rw [HT.out]; rintro e w2 ⟨rfl, hb2⟩; obtain ⟨hc2, hf2⟩ := bcell hb2; have hz2 := hb_lt hb2))
  go_ret
  exact ⟨rfl, (by repeat (first | exact Below.refl _ _ | assumption | apply Ext.alloc | apply Ext.drewN | apply Ext.drew | refine Ext.trans ?_ (by assumption)))⟩
end Go.Proofs.Ytmkjlhplgcifiaa
