/-
  block.Without: the list of blocks that are left.
-/
import Derived.Test.YtmkjlhplgcifiaaGreatJ17
import Derived.Test.YtmkjlhplgcifiaaGreatJ08
import Derived.Test.YtmkjlhplgcifiaaGreatJ15
import Derived.Deep.RegionHeld3
import Derived.Deep.AppendLies
namespace Go.Proofs.YtmkjlhplgcifiaaGreat
open Go.ChangeShapes Go.WideShapes Go.ChangeAt Go.RowKit
attribute [local simp] World.cell?_grow
attribute [local go_sem] World.cell?_grow
attribute [local go_sem] eqg_blk std_blk eqg_pod std_pod eqg_sel std_sel eqg_prt std_prt
attribute [local go_sem ↓] eql_blk eql_sel neq_sel eql_prt eql_pod
attribute [local go_sem ↓] met_in1 met_in2 met_re1 met_re2
set_option linter.unusedVariables false
set_option linter.unusedSimpArgs false
theorem wraps_32 (n : Int) (h₀ : 0 ≤ n) (h₁ : n < 2 ^ 32) : IntKind.i64.wrap n = n := by rw [IntKind.wrap_i64]; omega
theorem or_i64 (q m : Nat) (h : 2 ^ (m + 1) * q < 2 ^ 32) (hm : m < 32) : bits .or .i64 ((2 ^ (m + 1) * q : Nat) : Int) ((2 ^ m : Nat) : Int) = ((2 ^ (m + 1) * q + 2 ^ m : Nat) : Int) := by
  have h1 : 2 ^ m < 2 ^ (m + 1) := by rw [Nat.pow_succ]; have := Nat.pow_pos (n := m) (show 0 < 2 by omega); omega
  have h2 : 2 ^ (m + 1) * q ||| 2 ^ m = 2 ^ (m + 1) * q + 2 ^ m := (Nat.two_pow_add_eq_or_of_lt h1 q).symm
  have h3 : 2 ^ m < 2 ^ 32 := Nat.pow_lt_pow_right (by omega) hm
  rw [(bits_nat .i64 32 (by decide) wraps_32 _ _ h h3).2, h2]
theorem or_pw {b : DBlk} (hb : blkOk b = true) (hlt : b.bits < 32) (x : Int) (hx : x = pw (b.bits + 1)) : bits .or .i64 b.base x = b.base + pw (b.bits + 1) := by
  obtain ⟨h0, h1, h3, h4, h5⟩ := blkOk_true.1 hb
  obtain ⟨m, hm⟩ : ∃ m : Nat, (32 - (b.bits + 1)) = (m : Int) := Int.eq_ofNat_of_zero_le (by omega)
  have hm32 : m < 32 := by omega
  have hp1 : pw (b.bits + 1) = ((2 ^ m : Nat) : Int) := by unfold pw; rw [hm]; simp
  have hp : pw b.bits = ((2 ^ (m + 1) : Nat) : Int) := by rw [pw_split hb hlt, hp1, Nat.pow_succ]; simp; omega
  obtain ⟨q, hq⟩ : ∃ q : Nat, b.base / pw b.bits = (q : Int) := Int.eq_ofNat_of_zero_le (Int.ediv_nonneg h3 (Int.le_of_lt (pw_pos _)))
  have e : b.base = ((2 ^ (m + 1) * q : Nat) : Int) := by
    have := Int.ediv_mul_add_emod b.base (pw b.bits)
    rw [h5, hq, hp] at this
    rw [← this]; simp [Int.mul_comm]
  rw [hx, hp1, e]
  have h7 : 2 ^ (m + 1) * q < 2 ^ 32 := by
    have : ((2 ^ (m + 1) * q : Nat) : Int) ≤ 4294967295 := by rw [← e]; exact h4
    omega
  rw [or_i64 q m h7 hm32]; simp
theorem wrap_pw (k : Int) (h : 0 ≤ k) : IntKind.i64.wrap (2 ^ (32 - k).toNat) = pw k := by
  have := pw_le k h
  show IntKind.i64.wrap (pw k) = pw k
  rw [IntKind.wrap_i64]; omega
theorem blkWithin_any (a b : DBlk) (w : World) (hb : blkOk b = true) (h0 : 0 ≤ a.base) (h1 : a.base ≤ 4294967295) :
    Calls Tryz.prog 237 #[.agg #[.int .i64 a.base, .int .i64 a.bits], .agg #[.int .i64 b.base, .int .i64 b.bits]] w fun e w' => e = .returned (.bool (inn a b)) ∧ Below w.heap.size w w' := by
  have HB := hid hb
  clear hb
  cases hq : decide (b.bits ≤ a.bits)
  · have HF := hid (show inn a b = false by unfold inn; rw [hq]; rfl)
    have hq' := of_decide_eq_false hq
    go_enter Tryz.func237, Tryz.ntmps237
    go_wp2
    go_ret
    exact ⟨ret_bool (by rw [HF.out]), (by repeat (first | exact Below.refl _ _ | assumption | apply Ext.alloc | apply Ext.drewN | apply Ext.drew | refine Ext.trans ?_ (by assumption)))⟩
  · have HF := hid (show inn a b = blkHas a.base b by unfold inn; rw [hq]; rfl)
    have hq' := of_decide_eq_true hq
    go_enter Tryz.func237, Tryz.ntmps237
    go_wp2_with (go_at_call 104; refine (blkHas_any b _ _ HB.out h0 h1).mono ?_; rintro e w1 ⟨rfl, hb1⟩; obtain ⟨hc1, hf1⟩ := bcell hb1; have hz1 := hb_lt hb1)
    go_ret
    exact ⟨ret_bool (by rw [HF.out]), (by repeat (first | exact Below.refl _ _ | assumption | apply Ext.alloc | apply Ext.drewN | apply Ext.drew | refine Ext.trans ?_ (by assumption)))⟩
theorem woClo1 (b e : DBlk) (pb : Nat) (w : World) (he : blkOk e = true) (h0 : 0 ≤ b.base) (h1 : b.base ≤ 4294967295) (c0 : w.cell? ⟨pb, 0, none⟩ = some (.int .i64 b.base)) (c1 : w.cell? ⟨pb, 1, none⟩ = some (.int .i64 b.bits)) :
    Calls Tryz.prog 236 #[.agg #[.int .i64 e.base, .int .i64 e.bits], .pointer (some ⟨pb, 0, none⟩)] w fun e' w' => e' = .returned (.bool (inn b e)) ∧ Below w.heap.size w w' := by
  have HE := hid he
  have l0 := cell_lt c0
  clear he
  go_enter Tryz.func236, Tryz.ntmps236
  go_wp2_with (go_at_call 237; refine (blkWithin_any b e _ HE.out h0 h1).mono ?_; rintro e w1 ⟨rfl, hb1⟩; obtain ⟨hc1, hf1⟩ := bcell hb1; have hz1 := hb_lt hb1)
  go_ret
  exact ⟨rfl, (by repeat (first | exact Below.refl _ _ | assumption | apply Ext.alloc | apply Ext.drewN | apply Ext.drew | refine Ext.trans ?_ (by assumption)))⟩
theorem woClo2 (b e : DBlk) (pb : Nat) (w : World) (hb : blkOk b = true) (h0 : 0 ≤ e.base) (h1 : e.base ≤ 4294967295) (c0 : w.cell? ⟨pb, 0, none⟩ = some (.int .i64 b.base)) (c1 : w.cell? ⟨pb, 1, none⟩ = some (.int .i64 b.bits)) :
    Calls Tryz.prog 238 #[.agg #[.int .i64 e.base, .int .i64 e.bits], .pointer (some ⟨pb, 0, none⟩)] w fun e' w' => e' = .returned (.bool (inn e b)) ∧ Below w.heap.size w w' := by
  have HE := hid hb
  have l0 := cell_lt c0
  clear hb
  go_enter Tryz.func238, Tryz.ntmps238
  go_wp2_with (go_at_call 237; refine (blkWithin_any e b _ HE.out h0 h1).mono ?_; rintro e w1 ⟨rfl, hb1⟩; obtain ⟨hc1, hf1⟩ := bcell hb1; have hz1 := hb_lt hb1)
  go_ret
  exact ⟨rfl, (by repeat (first | exact Below.refl _ _ | assumption | apply Ext.alloc | apply Ext.drewN | apply Ext.drew | refine Ext.trans ?_ (by assumption)))⟩
theorem halves_any (b : DBlk) (w : World) (hb : blkOk b = true) (hlt : b.bits < 32) :
    Calls Tryz.prog 239 #[.agg #[.int .i64 b.base, .int .i64 b.bits]] w fun e w' => e = .returned (.tuple #[.agg #[.int .i64 b.base, .int .i64 (b.bits + 1)], .agg #[.int .i64 (b.base + pw (b.bits + 1)), .int .i64 (b.bits + 1)]]) ∧ Below w.heap.size w w' := by
  obtain ⟨hb0, hb1, hb3, hb4, hb5⟩ := blkOk_true.1 hb
  have HB := hid hb
  clear hb hb5
  have k1 : (0 : Int) ≤ 32 - (b.bits + 1) := by omega
  have k2 : wrap64 (b.bits + 1) = b.bits + 1 := IntWalk.wrap64_in _ (by omega)
  have k3 : wrap64 (32 - (b.bits + 1)) = 32 - (b.bits + 1) := IntWalk.wrap64_in _ (by omega)
  have k4 : IntKind.i64.wrap (32 - (b.bits + 1)) = 32 - (b.bits + 1) := by rw [IntKind.wrap_i64]; omega
  have HO := hid (or_pw HB.out hlt _ (wrap_pw (b.bits + 1) (by omega)))
  have n0 := World.new_ne
  go_enter Tryz.func239, Tryz.ntmps239
  go_wp2
  go_region_held3 (fun w' => w'.cell? ⟨w.heap.size, 0, none⟩ = some (.int .i64 b.base)) (go_keep) (fail)
  rw [HO.out]
  go_wp2
  exact bodyPost_ret (v := .tuple #[.agg #[.int .i64 b.base, .int .i64 (b.bits + 1)], .agg #[.int .i64 (b.base + pw (b.bits + 1)), .int .i64 (b.bits + 1)]]) (by simp [results, Tryz.results239, go_sem]) rfl ⟨rfl, (by repeat (first | exact Below.refl _ _ | assumption | apply Ext.alloc | apply Ext.drewN | apply Ext.drew | refine Ext.trans ?_ (by assumption)))⟩
theorem anyBlkW1 (f : DBlk → Bool) (k0 : Value) (a : Option Addr) (cap : Nat) (l : List DBlk) (w : World) (hl : rdBlks w.heap.size w a l)
    (hK : ∀ (x : DBlk) (w1 : World), x ∈ l → Below w.heap.size w w1 → Calls Tryz.prog 236 #[.agg #[.int .i64 x.base, .int .i64 x.bits], k0] w1 fun e w2 => e = .returned (.bool (f x)) ∧ Below w1.heap.size w1 w2) :
    Calls Tryz.prog 235 #[.slice a l.length cap, .func (.func 236) #[] #[k0]] w fun e w' => e = .returned (.bool (l.any f)) ∧ Below w.heap.size w w' := by
  have HK := hid hK
  obtain ⟨hlen, hl⟩ := hl
  have HL := hid hl
  clear hl hK
  go_enter Tryz.func235, Tryz.ntmps235
  go_wp2
  go_loopw [9] (fun i wr => ∃ k : Nat, k ≤ l.length ∧ i = .int .i64 k ∧ (l.take k).any f = false ∧ Below w.heap.size w wr) (fun i _ => l.length - (intOf i).toNat)
  case atStart => exact ⟨0, Nat.zero_le _, rfl, rfl, Below.refl _ _⟩
  case round =>
    obtain ⟨k, hk, rfl, hall, hbw⟩ := hrel
    have HA := hid hall
    clear hall
    by_cases hlt : k < l.length
    · obtain ⟨hc, hf⟩ := bcell hbw
      obtain ⟨x, hxk⟩ : ∃ x, l[k]? = some x := ⟨l[k], by simp [hlt]⟩
      have HX := hid hxk
      clear hxk
      obtain ⟨b, off, rfl, hb, c0, c1⟩ := HL.out k x HX.out
      cases hx : f x
      · go_wp2_with (go_at_call 236; refine (HK.out x _ (List.mem_of_getElem? HX.out) (by repeat (first | exact Below.refl _ _ | assumption | apply Ext.alloc | apply Ext.drewN | apply Ext.drew | refine Ext.trans ?_ (by assumption)))).mono ?_; rintro e w1 ⟨rfl, hb1⟩)
        exact ⟨⟨k + 1, by omega, by go_num, take_any HX.out HA.out hx, (by repeat (first | exact Below.refl _ _ | assumption | apply Ext.alloc | apply Ext.drewN | apply Ext.drew | refine Ext.trans ?_ (by assumption)))⟩, by simp [intOf]; omega⟩
      · go_wp2_with (go_at_call 236; refine (HK.out x _ (List.mem_of_getElem? HX.out) (by repeat (first | exact Below.refl _ _ | assumption | apply Ext.alloc | apply Ext.drewN | apply Ext.drew | refine Ext.trans ?_ (by assumption)))).mono ?_; rintro e w1 ⟨rfl, hb1⟩)
        go_ret
        exact ⟨ret_bool (by rw [any_true HX.out hx]), (by repeat (first | exact Below.refl _ _ | assumption | apply Ext.alloc | apply Ext.drewN | apply Ext.drew | refine Ext.trans ?_ (by assumption)))⟩
    · go_wp2
      go_ret
      have := HA.out
      rw [List.take_of_length_le (by omega)] at this
      exact ⟨ret_bool (by rw [this]), hbw⟩
theorem anyBlkW2 (f : DBlk → Bool) (k0 : Value) (a : Option Addr) (cap : Nat) (l : List DBlk) (w : World) (hl : rdBlks w.heap.size w a l)
    (hK : ∀ (x : DBlk) (w1 : World), x ∈ l → Below w.heap.size w w1 → Calls Tryz.prog 238 #[.agg #[.int .i64 x.base, .int .i64 x.bits], k0] w1 fun e w2 => e = .returned (.bool (f x)) ∧ Below w1.heap.size w1 w2) :
    Calls Tryz.prog 235 #[.slice a l.length cap, .func (.func 238) #[] #[k0]] w fun e w' => e = .returned (.bool (l.any f)) ∧ Below w.heap.size w w' := by
  have HK := hid hK
  obtain ⟨hlen, hl⟩ := hl
  have HL := hid hl
  clear hl hK
  go_enter Tryz.func235, Tryz.ntmps235
  go_wp2
  go_loopw [9] (fun i wr => ∃ k : Nat, k ≤ l.length ∧ i = .int .i64 k ∧ (l.take k).any f = false ∧ Below w.heap.size w wr) (fun i _ => l.length - (intOf i).toNat)
  case atStart => exact ⟨0, Nat.zero_le _, rfl, rfl, Below.refl _ _⟩
  case round =>
    obtain ⟨k, hk, rfl, hall, hbw⟩ := hrel
    have HA := hid hall
    clear hall
    by_cases hlt : k < l.length
    · obtain ⟨hc, hf⟩ := bcell hbw
      obtain ⟨x, hxk⟩ : ∃ x, l[k]? = some x := ⟨l[k], by simp [hlt]⟩
      have HX := hid hxk
      clear hxk
      obtain ⟨b, off, rfl, hb, c0, c1⟩ := HL.out k x HX.out
      cases hx : f x
      · go_wp2_with (go_at_call 238; refine (HK.out x _ (List.mem_of_getElem? HX.out) (by repeat (first | exact Below.refl _ _ | assumption | apply Ext.alloc | apply Ext.drewN | apply Ext.drew | refine Ext.trans ?_ (by assumption)))).mono ?_; rintro e w1 ⟨rfl, hb1⟩)
        exact ⟨⟨k + 1, by omega, by go_num, take_any HX.out HA.out hx, (by repeat (first | exact Below.refl _ _ | assumption | apply Ext.alloc | apply Ext.drewN | apply Ext.drew | refine Ext.trans ?_ (by assumption)))⟩, by simp [intOf]; omega⟩
      · go_wp2_with (go_at_call 238; refine (HK.out x _ (List.mem_of_getElem? HX.out) (by repeat (first | exact Below.refl _ _ | assumption | apply Ext.alloc | apply Ext.drewN | apply Ext.drew | refine Ext.trans ?_ (by assumption)))).mono ?_; rintro e w1 ⟨rfl, hb1⟩)
        go_ret
        exact ⟨ret_bool (by rw [any_true HX.out hx]), (by repeat (first | exact Below.refl _ _ | assumption | apply Ext.alloc | apply Ext.drewN | apply Ext.drew | refine Ext.trans ?_ (by assumption)))⟩
    · go_wp2
      go_ret
      have := HA.out
      rw [List.take_of_length_le (by omega)] at this
      exact ⟨ret_bool (by rw [this]), hbw⟩
theorem info_blk : (Tryz.prog.info? 47).map (fun i => (i.zero, i.size, i.bytes)) = some (some (.agg #[.int .i64 0, .int .i64 0]), 2, 16) := by kernel_rfl
theorem own_le {w : World} {base base' : Nat} {e : TypeId} {size : Nat} {v : Value} {n : Nat} {xs : List Value} (h : w.ownsRow base' e size v n xs) (hb : base ≤ base') : w.ownsRow base e size v n xs := by
  obtain ⟨h1, h2⟩ := h
  refine ⟨h1, ?_⟩
  rcases h2 with h2 | ⟨g, cap, cur, a, b, c⟩
  · exact .inl h2
  · exact .inr ⟨g, cap, cur, a, by omega, c⟩
theorem encBlk_one (l : List DBlk) : ∀ u ∈ l.flatMap encBlk, u.oneCell' = true := by
  intro u hu
  obtain ⟨x, _, hx⟩ := List.mem_flatMap.1 hu
  simp [encBlk] at hx
  rcases hx with rfl | rfl <;> rfl
end Go.Proofs.YtmkjlhplgcifiaaGreat
