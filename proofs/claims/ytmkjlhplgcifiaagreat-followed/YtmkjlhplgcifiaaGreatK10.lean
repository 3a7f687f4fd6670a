/-
  block.Without: the list of blocks that are left.
  block.Without: the list of blocks that are left.
-/
import Derived.Test.YtmkjlhplgcifiaaGreatK09
import Derived.Test.YtmkjlhplgcifiaaGreatK04
import Derived.Test.YtmkjlhplgcifiaaGreatK08
import Derived.Deep.RegionHeld3
import Derived.Deep.AppendLies
namespace Go.Proofs.YtmkjlhplgcifiaaGreat
open Go.ChangeShapes Go.WideShapes Go.ChangeAt Go.RowKit
attribute [local simp] World.cell?_grow
attribute [local go_sem] World.cell?_grow
attribute [local go_sem] eqg_blk std_blk eqg_pod std_pod eqg_sel std_sel eqg_prt std_prt
attribute [local go_sem ↓] eql_blk eql_sel neq_sel eql_prt eql_pod
attribute [local go_sem ↓] met_in1 met_in2 met_re1 met_re2
set_option linter.unusedVariables false
set_option linter.unusedSimpArgs false
theorem wraps_32 (n : Int) (h₀ : 0 ≤ n) (h₁ : n < 2 ^ 32) : IntKind.i64.wrap n = n := by rw [IntKind.wrap_i64]; omega
theorem or_i64 (q m : Nat) (h : 2 ^ (m + 1) * q < 2 ^ 32) (hm : m < 32) : bits .or .i64 ((2 ^ (m + 1) * q : Nat) : Int) ((2 ^ m : Nat) : Int) = ((2 ^ (m + 1) * q + 2 ^ m : Nat) : Int) := by
  have h1 : 2 ^ m < 2 ^ (m + 1) := by rw [Nat.pow_succ]; have := Nat.pow_pos (n := m) (show 0 < 2 by omega); omega
  have h2 : 2 ^ (m + 1) * q ||| 2 ^ m = 2 ^ (m + 1) * q + 2 ^ m := (Nat.two_pow_add_eq_or_of_lt h1 q).symm
  have h3 : 2 ^ m < 2 ^ 32 := Nat.pow_lt_pow_right (by omega) hm
  rw [(bits_nat .i64 32 (by decide) wraps_32 _ _ h h3).2, h2]
theorem or_pw {b : DBlk} (hb : blkOk b = true) (hlt : b.bits < 32) (x : Int) (hx : x = pw (b.bits + 1)) : bits .or .i64 b.base x = b.base + pw (b.bits + 1) := by
  obtain ⟨h0, h1, h3, h4, h5⟩ := blkOk_true.1 hb
  obtain ⟨m, hm⟩ : ∃ m : Nat, (32 - (b.bits + 1)) = (m : Int) := Int.eq_ofNat_of_zero_le (by omega)
  have hm32 : m < 32 := by omega
  have hp1 : pw (b.bits + 1) = ((2 ^ m : Nat) : Int) := by unfold pw; rw [hm]; simp
  have hp : pw b.bits = ((2 ^ (m + 1) : Nat) : Int) := by rw [pw_split hb hlt, hp1, Nat.pow_succ]; simp; omega
  obtain ⟨q, hq⟩ : ∃ q : Nat, b.base / pw b.bits = (q : Int) := Int.eq_ofNat_of_zero_le (Int.ediv_nonneg h3 (Int.le_of_lt (pw_pos _)))
  have e : b.base = ((2 ^ (m + 1) * q : Nat) : Int) := by
    have := Int.ediv_mul_add_emod b.base (pw b.bits)
    rw [h5, hq, hp] at this
    rw [← this]; simp [Int.mul_comm]
  rw [hx, hp1, e]
  have h7 : 2 ^ (m + 1) * q < 2 ^ 32 := by
    have : ((2 ^ (m + 1) * q : Nat) : Int) ≤ 4294967295 := by rw [← e]; exact h4
    omega
  rw [or_i64 q m h7 hm32]; simp
theorem wrap_pw (k : Int) (h : 0 ≤ k) : IntKind.i64.wrap (2 ^ (32 - k).toNat) = pw k := by
  have := pw_le k h
  show IntKind.i64.wrap (pw k) = pw k
  rw [IntKind.wrap_i64]; omega
theorem blkWithin_any (a b : DBlk) (w : World) (hb : blkOk b = true) (h0 : 0 ≤ a.base) (h1 : a.base ≤ 4294967295) :
    Calls Tryz.prog 237 #[.agg #[.int .i64 a.base, .int .i64 a.bits], .agg #[.int .i64 b.base, .int .i64 b.bits]] w fun e w' => e = .returned (.bool (inn a b)) ∧ Below w.heap.size w w' := by
  have HB := hid hb
  clear hb
  cases hq : decide (b.bits ≤ a.bits)
  · have HF := hid (show inn a b = false by unfold inn; rw [hq]; rfl)
    have hq' := of_decide_eq_false hq
    go_enter Tryz.func237, Tryz.ntmps237
    go_wp2
    go_ret
    exact ⟨ret_bool (by rw [HF.out]), (by repeat (first | exact Below.refl _ _ | assumption | apply Ext.alloc | apply Ext.drewN | apply Ext.drew | refine Ext.trans ?_ (by assumption)))⟩
  · have HF := hid (show inn a b = blkHas a.base b by unfold inn; rw [hq]; rfl)
    have hq' := of_decide_eq_true hq
    go_enter Tryz.func237, Tryz.ntmps237
    go_wp2_with (go_at_call 104; refine (blkHas_any b _ _ HB.out h0 h1).mono ?_; rintro e w1 ⟨rfl, hb1⟩; obtain ⟨hc1, hf1⟩ := bcell hb1; have hz1 := hb_lt hb1)
    go_ret
    exact ⟨ret_bool (by rw [HF.out]), (by repeat (first | exact Below.refl _ _ | assumption | apply Ext.alloc | apply Ext.drewN | apply Ext.drew | refine Ext.trans ?_ (by assumption)))⟩
theorem woClo1 (b e : DBlk) (pb : Nat) (w : World) (he : blkOk e = true) (h0 : 0 ≤ b.base) (h1 : b.base ≤ 4294967295) (c0 : w.cell? ⟨pb, 0, none⟩ = some (.int .i64 b.base)) (c1 : w.cell? ⟨pb, 1, none⟩ = some (.int .i64 b.bits)) :
    Calls Tryz.prog 236 #[.agg #[.int .i64 e.base, .int .i64 e.bits], .pointer (some ⟨pb, 0, none⟩)] w fun e' w' => e' = .returned (.bool (inn b e)) ∧ Below w.heap.size w w' := by
  have HE := hid he
  have l0 := cell_lt c0
  clear he
  go_enter Tryz.func236, Tryz.ntmps236
  go_wp2_with (go_at_call 237; refine (blkWithin_any b e _ HE.out h0 h1).mono ?_; rintro e w1 ⟨rfl, hb1⟩; obtain ⟨hc1, hf1⟩ := bcell hb1; have hz1 := hb_lt hb1)
  go_ret
  exact ⟨rfl, (by repeat (first | exact Below.refl _ _ | assumption | apply Ext.alloc | apply Ext.drewN | apply Ext.drew | refine Ext.trans ?_ (by assumption)))⟩
theorem woClo2 (b e : DBlk) (pb : Nat) (w : World) (hb : blkOk b = true) (h0 : 0 ≤ e.base) (h1 : e.base ≤ 4294967295) (c0 : w.cell? ⟨pb, 0, none⟩ = some (.int .i64 b.base)) (c1 : w.cell? ⟨pb, 1, none⟩ = some (.int .i64 b.bits)) :
    Calls Tryz.prog 238 #[.agg #[.int .i64 e.base, .int .i64 e.bits], .pointer (some ⟨pb, 0, none⟩)] w fun e' w' => e' = .returned (.bool (inn e b)) ∧ Below w.heap.size w w' := by
  have HE := hid hb
  have l0 := cell_lt c0
  clear hb
  go_enter Tryz.func238, Tryz.ntmps238
  go_wp2_with (go_at_call 237; refine (blkWithin_any e b _ HE.out h0 h1).mono ?_; rintro e w1 ⟨rfl, hb1⟩; obtain ⟨hc1, hf1⟩ := bcell hb1; have hz1 := hb_lt hb1)
  go_ret
  exact ⟨rfl, (by repeat (first | exact Below.refl _ _ | assumption | apply Ext.alloc | apply Ext.drewN | apply Ext.drew | refine Ext.trans ?_ (by assumption)))⟩
theorem halves_any (b : DBlk) (w : World) (hb : blkOk b = true) (hlt : b.bits < 32) :
    Calls Tryz.prog 239 #[.agg #[.int .i64 b.base, .int .i64 b.bits]] w fun e w' => e = .returned (.tuple #[.agg #[.int .i64 b.base, .int .i64 (b.bits + 1)], .agg #[.int .i64 (b.base + pw (b.bits + 1)), .int .i64 (b.bits + 1)]]) ∧ Below w.heap.size w w' := by
  obtain ⟨hb0, hb1, hb3, hb4, hb5⟩ := blkOk_true.1 hb
  have HB := hid hb
  clear hb hb5
  have k1 : (0 : Int) ≤ 32 - (b.bits + 1) := by omega
  have k2 : wrap64 (b.bits + 1) = b.bits + 1 := IntWalk.wrap64_in _ (by omega)
  have k3 : wrap64 (32 - (b.bits + 1)) = 32 - (b.bits + 1) := IntWalk.wrap64_in _ (by omega)
  have k4 : IntKind.i64.wrap (32 - (b.bits + 1)) = 32 - (b.bits + 1) := by rw [IntKind.wrap_i64]; omega
  have HO := hid (or_pw HB.out hlt _ (wrap_pw (b.bits + 1) (by omega)))
  have n0 := World.new_ne
  go_enter Tryz.func239, Tryz.ntmps239
  go_wp2
  go_region_held3 (fun w' => w'.cell? ⟨w.heap.size, 0, none⟩ = some (.int .i64 b.base)) (go_keep) (fail)
  rw [HO.out]
  go_wp2
  exact bodyPost_ret (v := .tuple #[.agg #[.int .i64 b.base, .int .i64 (b.bits + 1)], .agg #[.int .i64 (b.base + pw (b.bits + 1)), .int .i64 (b.bits + 1)]]) (by simp [results, Tryz.results239, go_sem]) rfl ⟨rfl, (by repeat (first | exact Below.refl _ _ | assumption | apply Ext.alloc | apply Ext.drewN | apply Ext.drew | refine Ext.trans ?_ (by assumption)))⟩
theorem anyBlkW1 (f : DBlk → Bool) (k0 : Value) (a : Option Addr) (cap : Nat) (l : List DBlk) (w : World) (hl : rdBlks w.heap.size w a l)
    (hK : ∀ (x : DBlk) (w1 : World), x ∈ l → Below w.heap.size w w1 → Calls Tryz.prog 236 #[.agg #[.int .i64 x.base, .int .i64 x.bits], k0] w1 fun e w2 => e = .returned (.bool (f x)) ∧ Below w1.heap.size w1 w2) :
    Calls Tryz.prog 235 #[.slice a l.length cap, .func (.func 236) #[] #[k0]] w fun e w' => e = .returned (.bool (l.any f)) ∧ Below w.heap.size w w' := by
  have HK := hid hK
  obtain ⟨hlen, hl⟩ := hl
  have HL := hid hl
  clear hl hK
  go_enter Tryz.func235, Tryz.ntmps235
  go_wp2
  go_loopw [9] (fun i wr => ∃ k : Nat, k ≤ l.length ∧ i = .int .i64 k ∧ (l.take k).any f = false ∧ Below w.heap.size w wr) (fun i _ => l.length - (intOf i).toNat)
  case atStart => exact ⟨0, Nat.zero_le _, rfl, rfl, Below.refl _ _⟩
  case round =>
    obtain ⟨k, hk, rfl, hall, hbw⟩ := hrel
    have HA := hid hall
    clear hall
    by_cases hlt : k < l.length
    · obtain ⟨hc, hf⟩ := bcell hbw
      obtain ⟨x, hxk⟩ : ∃ x, l[k]? = some x := ⟨l[k], by simp [hlt]⟩
      have HX := hid hxk
      clear hxk
      obtain ⟨b, off, rfl, hb, c0, c1⟩ := HL.out k x HX.out
      cases hx : f x
      · go_wp2_with (go_at_call 236; refine (HK.out x _ (List.mem_of_getElem? HX.out) (by repeat (first | exact Below.refl _ _ | assumption | apply Ext.alloc | apply Ext.drewN | apply Ext.drew | refine Ext.trans ?_ (by assumption)))).mono ?_; rintro e w1 ⟨rfl, hb1⟩)
        exact ⟨⟨k + 1, by omega, by go_num, take_any HX.out HA.out hx, (by repeat (first | exact Below.refl _ _ | assumption | apply Ext.alloc | apply Ext.drewN | apply Ext.drew | refine Ext.trans ?_ (by assumption)))⟩, by simp [intOf]; omega⟩
      · go_wp2_with (go_at_call 236; refine (HK.out x _ (List.mem_of_getElem? HX.out) (by repeat (first | exact Below.refl _ _ | assumption | apply Ext.alloc | apply Ext.drewN | apply Ext.drew | refine Ext.trans ?_ (by assumption)))).mono ?_; rintro e w1 ⟨rfl, hb1⟩)
        go_ret
        exact ⟨ret_bool (by rw [any_true HX.out hx]), (by repeat (first | exact Below.refl _ _ | assumption | apply Ext.alloc | apply Ext.drewN | apply Ext.drew | refine Ext.trans ?_ (by assumption)))⟩
    · go_wp2
      go_ret
      have := HA.out
      rw [List.take_of_length_le (by omega)] at this
      exact ⟨ret_bool (by rw [this]), hbw⟩
theorem anyBlkW2 (f : DBlk → Bool) (k0 : Value) (a : Option Addr) (cap : Nat) (l : List DBlk) (w : World) (hl : rdBlks w.heap.size w a l)
    (hK : ∀ (x : DBlk) (w1 : World), x ∈ l → Below w.heap.size w w1 → Calls Tryz.prog 238 #[.agg #[.int .i64 x.base, .int .i64 x.bits], k0] w1 fun e w2 => e = .returned (.bool (f x)) ∧ Below w1.heap.size w1 w2) :
    Calls Tryz.prog 235 #[.slice a l.length cap, .func (.func 238) #[] #[k0]] w fun e w' => e = .returned (.bool (l.any f)) ∧ Below w.heap.size w w' := by
  have HK := hid hK
  obtain ⟨hlen, hl⟩ := hl
  have HL := hid hl
  clear hl hK
  go_enter Tryz.func235, Tryz.ntmps235
  go_wp2
  go_loopw [9] (fun i wr => ∃ k : Nat, k ≤ l.length ∧ i = .int .i64 k ∧ (l.take k).any f = false ∧ Below w.heap.size w wr) (fun i _ => l.length - (intOf i).toNat)
  case atStart => exact ⟨0, Nat.zero_le _, rfl, rfl, Below.refl _ _⟩
  case round =>
    obtain ⟨k, hk, rfl, hall, hbw⟩ := hrel
    have HA := hid hall
    clear hall
    by_cases hlt : k < l.length
    · obtain ⟨hc, hf⟩ := bcell hbw
      obtain ⟨x, hxk⟩ : ∃ x, l[k]? = some x := ⟨l[k], by simp [hlt]⟩
      have HX := hid hxk
      clear hxk
      obtain ⟨b, off, rfl, hb, c0, c1⟩ := HL.out k x HX.out
      cases hx : f x
      · go_wp2_with (go_at_call 238; refine (HK.out x _ (List.mem_of_getElem? HX.out) (by repeat (first | exact Below.refl _ _ | assumption | apply Ext.alloc | apply Ext.drewN | apply Ext.drew | refine Ext.trans ?_ (by assumption)))).mono ?_; rintro e w1 ⟨rfl, hb1⟩)
        exact ⟨⟨k + 1, by omega, by go_num, take_any HX.out HA.out hx, (by repeat (first | exact Below.refl _ _ | assumption | apply Ext.alloc | apply Ext.drewN | apply Ext.drew | refine Ext.trans ?_ (by assumption)))⟩, by simp [intOf]; omega⟩
      · go_wp2_with (go_at_call 238; refine (HK.out x _ (List.mem_of_getElem? HX.out) (by repeat (first | exact Below.refl _ _ | assumption | apply Ext.alloc | apply Ext.drewN | apply Ext.drew | refine Ext.trans ?_ (by assumption)))).mono ?_; rintro e w1 ⟨rfl, hb1⟩)
        go_ret
        exact ⟨ret_bool (by rw [any_true HX.out hx]), (by repeat (first | exact Below.refl _ _ | assumption | apply Ext.alloc | apply Ext.drewN | apply Ext.drew | refine Ext.trans ?_ (by assumption)))⟩
    · go_wp2
      go_ret
      have := HA.out
      rw [List.take_of_length_le (by omega)] at this
      exact ⟨ret_bool (by rw [this]), hbw⟩
theorem info_blk : (Tryz.prog.info? 47).map (fun i => (i.zero, i.size, i.bytes)) = some (some (.agg #[.int .i64 0, .int .i64 0]), 2, 16) := by kernel_rfl
theorem own_le {w : World} {base base' : Nat} {e : TypeId} {size : Nat} {v : Value} {n : Nat} {xs : List Value} (h : w.ownsRow base' e size v n xs) (hb : base ≤ base') : w.ownsRow base e size v n xs := by
  obtain ⟨h1, h2⟩ := h
  refine ⟨h1, ?_⟩
  rcases h2 with h2 | ⟨g, cap, cur, a, b, c⟩
  · exact .inl h2
  · exact .inr ⟨g, cap, cur, a, by omega, c⟩
theorem encBlk_one (l : List DBlk) : ∀ u ∈ l.flatMap encBlk, u.oneCell' = true := by
  intro u hu
  obtain ⟨x, _, hx⟩ := List.mem_flatMap.1 hu
  simp [encBlk] at hx
  rcases hx with rfl | rfl <;> rfl
end Go.Proofs.YtmkjlhplgcifiaaGreat
namespace Go.Proofs.YtmkjlhplgcifiaaGreat
open Go.ChangeShapes Go.WideShapes Go.ChangeAt Go.RowKit
attribute [local simp] World.cell?_grow
attribute [local go_sem] World.cell?_grow
attribute [local go_sem] eqg_blk std_blk eqg_pod std_pod eqg_sel std_sel eqg_prt std_prt
attribute [local go_sem ↓] eql_blk eql_sel neq_sel eql_prt eql_pod
attribute [local go_sem ↓] met_in1 met_in2 met_re1 met_re2
set_option linter.unusedVariables false
set_option linter.unusedSimpArgs false
theorem news_blks {w : World} {base : Nat} {e : TypeId} {a : Option Addr} {n c : Nat} {l : List DBlk} (h : w.ownsRow base e 2 (.slice a n c) n (l.flatMap encBlk)) : ∀ j u, (l.flatMap encBlk)[j]? = some u → ∃ b o, a = some ⟨b, o, none⟩ ∧ w.cell? ⟨b, o + j, none⟩ = some u := by
  obtain ⟨a', c', e', _, hc⟩ := own_slice h
  cases e'
  intro j u hj
  obtain ⟨b, rfl, _, _, h1⟩ := hc j u hj
  exact ⟨b, 0, rfl, by rw [Nat.zero_add]; exact h1⟩
theorem grown_low {w w' w1 : World} {base : Nat} {e : TypeId} {size : Nat} {v : Value} {n : Nat} {xs : List Value} {b o : Nat} {u : Value} (hg : w.grownBy w' v.ownBlock) (hown : w1.ownsRow base e size v n xs) (hb : b < base) (h : w.cell? ⟨b, o, none⟩ = some u) : w'.cell? ⟨b, o, none⟩ = some u :=
  hg.cell h (fun e => by have := (hown.lt b e.symm).1; omega)
theorem wl_max {m n : Nat} (h1 : m ≤ 65) (h2 : n ≤ 65) : m + n ≤ maxLen := by unfold maxLen; omega
theorem wl_bytes {m n : Nat} (h1 : m ≤ 65) (h2 : n ≤ 65) : (m + n) * 16 ≤ 140737488355328 := by omega
set_option maxRecDepth 100000 in
set_option maxHeartbeats 4000000 in
theorem without_any : ∀ (f : Nat) (bb bn : Int) (ea : Option Addr) (ec : Nat) (ex : List DBlk) (w : World), blkOk ⟨bb, bn⟩ = true → ex.all blkOk = true → ex.length ≤ 2 → 33 - bn ≤ f → rdBlks w.heap.size w ea ex →
    Calls Tryz.prog 233 #[.agg #[.int .i64 bb, .int .i64 bn], .slice ea ex.length ec] w fun e w' => (∃ v, e = .returned v ∧ w'.ownsRow w.heap.size 47 2 v (wout f ⟨bb, bn⟩ ex).length ((wout f ⟨bb, bn⟩ ex).flatMap encBlk)) ∧ Below w.heap.size w w'
  | 0, bb, bn, ea, ec, ex, w, hb, _, _, hf, _ => by have := (blkOk_true.1 hb).2.1; simp at this; omega
  | f + 1, bb, bn, ea, ec, ex, w, hb, he, hl, hf, hr => by
    have IH := hid (without_any f)
    have HB := hid hb
    have HE := hid he
    have HR := hid hr
    obtain ⟨hb0, hb1, hb3, hb4, hb5⟩ := blkOk_true.1 hb
    simp only at hb0 hb1 hb3 hb4
    have hmf := mkFunc
    clear hb he hr hb5
    obtain ⟨i0, hi, iz0, iz1, iz2⟩ := info_parts info_blk
    cases h1 : ex.any (inn ⟨bb, bn⟩)
    · cases h2 : ex.any (fun e => inn e ⟨bb, bn⟩)
      · have HF := hid (show wout (f + 1) ⟨bb, bn⟩ ex = [⟨bb, bn⟩] by rw [wout, h1, h2]; rfl)
        have M1 := hid True.intro
        go_enter Tryz.func233, Tryz.ntmps233
        go_wp2_with (first
          | (go_at_call 235; have m1 := M1.out; refine (anyBlkW1 (inn ⟨bb, bn⟩) _ _ _ _ _ (rdBlks.to HR.out (by repeat (first | exact Below.refl _ _ | assumption | apply Ext.alloc | apply Ext.drewN | apply Ext.drew | refine Ext.trans ?_ (by assumption)))) (fun x w2 hx hb2 => woClo1 ⟨bb, bn⟩ x _ w2 (List.all_eq_true.1 HE.out x hx) hb3 hb4 (cell_to (by simp [go_sem]) hb2) (cell_to (by simp [go_sem]) hb2))).mono ?_; rw [h1]; rintro e w1 ⟨rfl, hb1⟩; obtain ⟨hc1, hf1⟩ := bcell hb1; have hz1 := hb_lt hb1; clear M1 m1; have q0 : w1.cell? ⟨w.heap.size, 0, none⟩ = some (.int .i64 bb) := cell_to (by simp [go_sem]) hb1; have q1 : w1.cell? ⟨w.heap.size, 1, none⟩ = some (.int .i64 bn) := cell_to (by simp [go_sem]) hb1)
          | (go_at_call 235; refine (anyBlkW2 (fun e => inn e ⟨bb, bn⟩) _ _ _ _ _ (rdBlks.to HR.out (by repeat (first | exact Below.refl _ _ | assumption | apply Ext.alloc | apply Ext.drewN | apply Ext.drew | refine Ext.trans ?_ (by assumption)))) (fun x w2 hx hb2 => woClo2 ⟨bb, bn⟩ x _ w2 HB.out (blkOk_true.1 (List.all_eq_true.1 HE.out x hx)).2.2.1 (blkOk_true.1 (List.all_eq_true.1 HE.out x hx)).2.2.2.1 (cell_to q0 hb2) (cell_to q1 hb2))).mono ?_; rw [h2]; rintro e w2 ⟨rfl, hb2⟩; obtain ⟨hc2, hf2⟩ := bcell hb2; have hz2 := hb_lt hb2; have r0 := cell_to q0 hb2; have r1 := cell_to q1 hb2))
        go_ret
        refine ⟨⟨_, rfl, ?_⟩, (by repeat (first | exact Below.refl _ _ | assumption | apply Ext.alloc | apply Ext.drewN | apply Ext.drew | refine Ext.trans ?_ (by assumption)))⟩
        rw [HF.out]
        exact own_built w2 [.int .i64 bb, .int .i64 bn] w.heap.size _ 2 1 (by have := (show Below w.heap.size w w2 from (by repeat (first | exact Below.refl _ _ | assumption | apply Ext.alloc | apply Ext.drewN | apply Ext.drew | refine Ext.trans ?_ (by assumption)))).size; omega) rfl (by unfold maxLen; omega)
      · have hlt : bn < 32 := by
          rcases Int.lt_or_le bn 32 with h | h
          · exact h
          · obtain ⟨e, hem, hei⟩ := List.any_eq_true.1 h2
            have := List.any_eq_true.2 ⟨e, hem, inn_full (List.all_eq_true.1 HE.out e hem) HB.out hei (show bn = 32 by omega)⟩
            rw [h1] at this; cases this
        have HF := hid (show wout (f + 1) ⟨bb, bn⟩ ex = wout f ⟨bb, bn + 1⟩ ex ++ wout f ⟨bb + pw (bn + 1), bn + 1⟩ ex by rw [wout, h1, h2]; rfl)
        have HL := hid (low_ok HB.out hlt)
        have HH := hid (high_ok HB.out hlt)
        have HL2 := hid (wout_le f HL.out HE.out hl)
        have HH2 := hid (wout_le f HH.out HE.out hl)
        have M1 := hid True.intro
        go_enter Tryz.func233, Tryz.ntmps233
        go_wp2_with (first
          | (go_at_call 235; have m1 := M1.out; refine (anyBlkW1 (inn ⟨bb, bn⟩) _ _ _ _ _ (rdBlks.to HR.out (by repeat (first | exact Below.refl _ _ | assumption | apply Ext.alloc | apply Ext.drewN | apply Ext.drew | refine Ext.trans ?_ (by assumption)))) (fun x w2 hx hb2 => woClo1 ⟨bb, bn⟩ x _ w2 (List.all_eq_true.1 HE.out x hx) hb3 hb4 (cell_to (by simp [go_sem]) hb2) (cell_to (by simp [go_sem]) hb2))).mono ?_; rw [h1]; rintro e w1 ⟨rfl, hb1⟩; obtain ⟨hc1, hf1⟩ := bcell hb1; have hz1 := hb_lt hb1; clear M1 m1; have q0 : w1.cell? ⟨w.heap.size, 0, none⟩ = some (.int .i64 bb) := cell_to (by simp [go_sem]) hb1; have q1 : w1.cell? ⟨w.heap.size, 1, none⟩ = some (.int .i64 bn) := cell_to (by simp [go_sem]) hb1)
          | (go_at_call 235; refine (anyBlkW2 (fun e => inn e ⟨bb, bn⟩) _ _ _ _ _ (rdBlks.to HR.out (by repeat (first | exact Below.refl _ _ | assumption | apply Ext.alloc | apply Ext.drewN | apply Ext.drew | refine Ext.trans ?_ (by assumption)))) (fun x w2 hx hb2 => woClo2 ⟨bb, bn⟩ x _ w2 HB.out (blkOk_true.1 (List.all_eq_true.1 HE.out x hx)).2.2.1 (blkOk_true.1 (List.all_eq_true.1 HE.out x hx)).2.2.2.1 (cell_to q0 hb2) (cell_to q1 hb2))).mono ?_; rw [h2]; rintro e w2 ⟨rfl, hb2⟩; obtain ⟨hc2, hf2⟩ := bcell hb2; have hz2 := hb_lt hb2; have r0 := cell_to q0 hb2; have r1 := cell_to q1 hb2)
          | (go_at_call 239; refine (halves_any ⟨bb, bn⟩ _ HB.out hlt).mono ?_; rintro e w3 ⟨rfl, hb3⟩; obtain ⟨hc3, hf3⟩ := bcell hb3; have hz3 := hb_lt hb3))
        have hBW : Below w.heap.size w ((w3.alloc (.cells #[.int .i64 bb, .int .i64 (bn + 1)] 47)).alloc (.cells #[.int .i64 (bb + pw (bn + 1)), .int .i64 (bn + 1)] 47)) := (by repeat (first | exact Below.refl _ _ | assumption | apply Ext.alloc | apply Ext.drewN | apply Ext.drew | refine Ext.trans ?_ (by assumption)))
        have s0 : ((w3.alloc (.cells #[.int .i64 bb, .int .i64 (bn + 1)] 47)).alloc (.cells #[.int .i64 (bb + pw (bn + 1)), .int .i64 (bn + 1)] 47)).cell? ⟨w3.heap.size, 0, none⟩ = some (.int .i64 bb) := by simp [go_sem]
        have s1 : ((w3.alloc (.cells #[.int .i64 bb, .int .i64 (bn + 1)] 47)).alloc (.cells #[.int .i64 (bb + pw (bn + 1)), .int .i64 (bn + 1)] 47)).cell? ⟨w3.heap.size, 1, none⟩ = some (.int .i64 (bn + 1)) := by simp [go_sem]
        have s2 : ((w3.alloc (.cells #[.int .i64 bb, .int .i64 (bn + 1)] 47)).alloc (.cells #[.int .i64 (bb + pw (bn + 1)), .int .i64 (bn + 1)] 47)).cell? ⟨w3.heap.size + 1, 0, none⟩ = some (.int .i64 (bb + pw (bn + 1))) := by simp [go_sem]
        have s3 : ((w3.alloc (.cells #[.int .i64 bb, .int .i64 (bn + 1)] 47)).alloc (.cells #[.int .i64 (bb + pw (bn + 1)), .int .i64 (bn + 1)] 47)).cell? ⟨w3.heap.size + 1, 1, none⟩ = some (.int .i64 (bn + 1)) := by simp [go_sem]
        generalize (w3.alloc (.cells #[.int .i64 bb, .int .i64 (bn + 1)] 47)).alloc (.cells #[.int .i64 (bb + pw (bn + 1)), .int .i64 (bn + 1)] 47) = W at hBW s0 s1 s2 s3 ⊢
        have HBW := hid hBW
        have hWs := hBW.size
        have M2 := hid True.intro
        clear hb1 hc1 hf1 hz1 q0 q1 hb2 hc2 hf2 hz2 r0 r1 hb3 hc3 hf3 hz3 hBW hmf
        have t0 : W.drew.cell? ⟨w3.heap.size, 0, none⟩ = some (.int .i64 bb) := s0
        have t1 : W.drew.cell? ⟨w3.heap.size, 1, none⟩ = some (.int .i64 (bn + 1)) := s1
        have t2 : W.drew.cell? ⟨w3.heap.size + 1, 0, none⟩ = some (.int .i64 (bb + pw (bn + 1))) := s2
        have t3 : W.drew.cell? ⟨w3.heap.size + 1, 1, none⟩ = some (.int .i64 (bn + 1)) := s3
        go_region_held3 (fun w' => w'.cell? ⟨w3.heap.size, 0, none⟩ = some (.int .i64 bb) ∧ w'.cell? ⟨w3.heap.size, 1, none⟩ = some (.int .i64 (bn + 1)) ∧ w'.cell? ⟨w3.heap.size + 1, 0, none⟩ = some (.int .i64 (bb + pw (bn + 1))) ∧ w'.cell? ⟨w3.heap.size + 1, 1, none⟩ = some (.int .i64 (bn + 1))) (go_keep) (first
          | (go_at_call 233; have m2 := M2.out; refine (IH.out bb (bn + 1) ea ec ex W.drew HL.out HE.out hl (by omega) (rdBlks.ext (HBW.out.drew) (by show w.heap.size ≤ W.heap.size; omega) HR.out)).mono ?_; rintro e w4 ⟨⟨v4, rfl, ho4⟩, hb4⟩; obtain ⟨a4, c4, rfl, hc4, _⟩ := own_slice ho4; have HO4 := hid ho4; have HB4 := hid hb4; have u0 := cell_to t0 hb4; have u1 := cell_to t1 hb4; have u2 := cell_to t2 hb4; have u3 := cell_to t3 hb4; clear ho4 M2 m2)
          | (go_at_call 233; refine (IH.out (bb + pw (bn + 1)) (bn + 1) ea ec ex w4 HH.out HE.out hl (by omega) (rdBlks.ext (HBW.out.drew.trans (HB4.out.mono (by show w.heap.size ≤ W.heap.size; omega))) (by have := HB4.out.size; have h2 : W.drew.heap.size = W.heap.size := rfl; omega) HR.out)).mono ?_; rintro e w5 ⟨⟨v5, rfl, ho5⟩, hb5⟩; obtain ⟨a5, c5, rfl, hc5, _⟩ := own_slice ho5; have HO5 := hid ho5; have HB5 := hid hb5; have x0 := cell_to u0 hb5; have x1 := cell_to u1 hb5; have x2 := cell_to u2 hb5; have x3 := cell_to u3 hb5; clear ho5)
          | ((refine step_append_list w5 (by rfl) (.tmp 23) (.tmp 26) 67 (by rfl) w.heap.size 47 i0 _ 2 16 Tryz.underlying67 hi iz0 iz1 iz2 rfl (by decide) _ _ _ (by rfl) (own_le (own_to HO4.out HB5.out) (by show w.heap.size ≤ W.heap.size; omega)) a5 _ c5 ((wout f ⟨bb + pw (bn + 1), bn + 1⟩ ex).flatMap encBlk) (by rfl) (oflat_len (k := 2) (fun _ => rfl) _) (news_blks HO5.out) (encBlk_one _) (wl_max HL2.out HH2.out) (wl_bytes HL2.out HH2.out) (by have := HB5.out.size; have h4 := HB4.out.size; have h2 : W.drew.heap.size = W.heap.size := rfl; omega) ?_; intro v' w6 hown6 hg6; have y0 := grown_low hg6 HO4.out (show w3.heap.size < W.heap.size from cell_lt s0) x0; have y1 := grown_low hg6 HO4.out (show w3.heap.size < W.heap.size from cell_lt s0) x1; have y2 := grown_low hg6 HO4.out (show w3.heap.size + 1 < W.heap.size from cell_lt s2) x2; have y3 := grown_low hg6 HO4.out (show w3.heap.size + 1 < W.heap.size from cell_lt s2) x3; have HO6 := hid hown6; have HG6 := hid hg6; clear hown6 hg6)))
        go_wp2
        go_ret
        refine ⟨⟨_, rfl, ?_⟩, ?_⟩
        · rw [HF.out, List.length_append, List.flatMap_append]; exact HO6.out
        · refine Below.grown (HBW.out.drew.trans ((HB4.out.mono (show w.heap.size ≤ W.heap.size by omega)).trans (HB5.out.mono (by have h4 := HB4.out.size; have h2 : W.drew.heap.size = W.heap.size := rfl; omega)))) HG6.out (by have := HB5.out.size; have h4 := HB4.out.size; have h2 : W.drew.heap.size = W.heap.size := rfl; omega) (fun k hk => by have := (HO4.out.lt k hk).1; have h2 : W.drew.heap.size = W.heap.size := rfl; omega)
    · have HF := hid (show wout (f + 1) ⟨bb, bn⟩ ex = [] by rw [wout, h1]; rfl)
      go_enter Tryz.func233, Tryz.ntmps233
      go_wp2_with (go_at_call 235; refine (anyBlkW1 (inn ⟨bb, bn⟩) _ _ _ _ _ (rdBlks.to HR.out (by repeat (first | exact Below.refl _ _ | assumption | apply Ext.alloc | apply Ext.drewN | apply Ext.drew | refine Ext.trans ?_ (by assumption)))) (fun x w2 hx hb2 => woClo1 ⟨bb, bn⟩ x _ w2 (List.all_eq_true.1 HE.out x hx) hb3 hb4 (cell_to (by simp [go_sem]) hb2) (cell_to (by simp [go_sem]) hb2))).mono ?_; rw [h1]; rintro e w1 ⟨rfl, hb1⟩; obtain ⟨hc1, hf1⟩ := bcell hb1; have hz1 := hb_lt hb1)
      go_ret
      exact ⟨⟨_, rfl, by rw [HF.out]; exact World.ownsRow_nil _ _ _ _⟩, (by repeat (first | exact Below.refl _ _ | assumption | apply Ext.alloc | apply Ext.drewN | apply Ext.drew | refine Ext.trans ?_ (by assumption)))⟩
end Go.Proofs.YtmkjlhplgcifiaaGreat
