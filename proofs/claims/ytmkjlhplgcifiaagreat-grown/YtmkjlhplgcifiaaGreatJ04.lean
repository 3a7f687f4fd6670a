/-
  Blocks: contracts of the program's and of the document's functions over them.
  Selectors, ports and packets: who is selected, what fits, which end is which.
-/
import Derived.Test.YtmkjlhplgcifiaaGreatJ03
import Derived.Test.YtmkjlhplgcifiaaGreatJ02
import Derived.Laws.BitsLemmas
namespace Go.Proofs.YtmkjlhplgcifiaaGreat
open Go.ChangeShapes Go.WideShapes Go.ChangeAt Go.RowKit
attribute [local simp] World.cell?_grow
attribute [local go_sem] World.cell?_grow
attribute [local go_sem] eqg_blk std_blk eqg_pod std_pod eqg_sel std_sel eqg_prt std_prt
attribute [local go_sem ↓] eql_blk eql_sel neq_sel eql_prt eql_pod
set_option linter.unusedVariables false
set_option linter.unusedSimpArgs false
theorem btw_true {n lo hi : Int} : btw n lo hi = true ↔ lo ≤ n ∧ n ≤ hi := by simp [btw]
theorem pw_pos (bits : Int) : 0 < pw bits := by unfold pw; exact Int.pow_pos (by omega)
theorem mul_div_le (ip p : Int) (hp : 0 < p) (h : 0 ≤ ip) : 0 ≤ ip / p * p ∧ ip / p * p ≤ ip := by
  have h1 := Int.ediv_nonneg h (Int.le_of_lt hp)
  have h2 := Int.ediv_mul_le ip (b := p) (by omega)
  exact ⟨Int.mul_nonneg h1 (Int.le_of_lt hp), h2⟩
theorem blk_eq (base p : Int) : decide (base / p * p = base) = decide (base % p = 0) := by
  have := Int.ediv_mul_add_emod base p
  by_cases h : base % p = 0
  · simp [h]; omega
  · simp [h]; omega
theorem has_eq (ip base p : Int) (h : base % p = 0) : decide (ip / p = base / p) = decide (ip / p * p = base) := by
  have h1 := Int.ediv_mul_add_emod base p
  have h2 : base / p * p = base := by omega
  by_cases hp : p = 0
  · subst hp; simp at *; omega
  by_cases e : ip / p = base / p
  · simp [e, h2]
  · have : ¬ ip / p * p = base := by
      intro e2
      rw [← h2] at e2
      exact e (Int.eq_of_mul_eq_mul_right hp e2)
    simp [e, this]
theorem blkOk_true {x : DBlk} : blkOk x = true ↔ 0 ≤ x.bits ∧ x.bits ≤ 32 ∧ 0 ≤ x.base ∧ x.base ≤ 4294967295 ∧ x.base % pw x.bits = 0 := by
  simp [blkOk, btw, and_assoc]
theorem pw_succ (k : Int) (h : 0 ≤ k) (h1 : k < 32) : pw k = 2 * pw (k + 1) := by
  unfold pw
  have : (32 - k).toNat = (32 - (k + 1)).toNat + 1 := by omega
  rw [this, Int.pow_succ, Int.mul_comm]
theorem pw_le (k : Int) (h : 0 ≤ k) : 1 ≤ pw k ∧ pw k ≤ 4294967296 := by
  refine ⟨by have := pw_pos k; omega, ?_⟩
  unfold pw
  have : (32 - k).toNat ≤ 32 := by omega
  have h2 : (2 : Nat) ^ (32 - k).toNat ≤ 2 ^ 32 := Nat.pow_le_pow_right (by omega) this
  have : ((2 : Int) ^ (32 - k).toNat) = ((2 ^ (32 - k).toNat : Nat) : Int) := by simp
  rw [this]
  omega
theorem fac_le (m p q : Int) (hp : 1 ≤ p) (hq : 1 ≤ q) (h : m * p = q) : 1 ≤ m ∧ m ≤ q := by
  have hm : 0 < m := by
    rcases Int.lt_or_le 0 m with h' | h'
    · exact h'
    · have := Int.mul_nonneg (a := -m) (b := p) (by omega) (by omega)
      rw [Int.neg_mul] at this
      omega
  refine ⟨by omega, ?_⟩
  have := Int.mul_le_mul_of_nonneg_left hp (Int.le_of_lt hm)
  omega
theorem fac_two (m p q : Int) (hp : 0 < p) (h : m * (2 * p) = q) (hq : q ≤ 4294967296) : 2 * m ≤ 4294967296 := by
  rcases Int.lt_or_le 0 m with h' | h'
  · have h1 : m * (2 * p) = (2 * m) * p := by rw [Int.mul_comm 2 m, Int.mul_assoc]
    have := Int.mul_le_mul_of_nonneg_left (show 1 ≤ p by omega) (show 0 ≤ 2 * m by omega)
    omega
  · omega
theorem around_any (ip bits : Int) (w : World) (h1 : 0 ≤ bits) (h2 : bits ≤ 32) (h3 : 0 ≤ ip) (h4 : ip ≤ 4294967295) :
    Calls Tryz.prog 136 #[.int .i64 ip, .int .i64 bits] w fun e w' => e = .returned (.agg #[.int .i64 (ip / pw bits * pw bits), .int .i64 bits]) ∧ Below w.heap.size w w' := by
  have hw : wrap64 (ip / 2 ^ (32 - bits).toNat * 2 ^ (32 - bits).toNat) = ip / pw bits * pw bits := by
    have := mul_div_le ip (pw bits) (pw_pos _) h3
    show wrap64 (ip / pw bits * pw bits) = _
    exact IntWalk.wrap64_in _ (by omega)
  have H : Hid (wrap64 (ip / 2 ^ (32 - bits).toNat * 2 ^ (32 - bits).toNat) = ip / pw bits * pw bits) := hw
  clear hw
  go_enter Tryz.func136, Tryz.ntmps136
  go_wp2
  rw [H.out]
  exact bodyPost_ret (v := .agg #[.int .i64 (ip / pw bits * pw bits), .int .i64 bits]) (by simp [results, Tryz.results136, go_sem]) rfl ⟨rfl, (by repeat (first | exact Below.refl _ _ | assumption | apply Ext.alloc | apply Ext.drewN | apply Ext.drew | refine Ext.trans ?_ (by assumption)))⟩
theorem blkRight_any (x : DBlk) (w : World) :
    Calls Tryz.prog 219 #[.agg #[.int .i64 x.base, .int .i64 x.bits]] w fun e w' => e = .returned (.bool (blkOk x)) ∧ Below w.heap.size w w' := by
  cases hq1 : btw x.bits 0 32
  · go_enter Tryz.func219, Tryz.ntmps219
    go_wp2
    refine wp_region_grow (by kernel_rfl) (by kernel_rfl) ?_
    repeat (go_big_quiet_step (first
      | (go_at_call 63; exact Calls.grow_bool_same hq1 (within_any _ _ _ _))))
    refine wpQuiet_nil ?_
    intro w1 hb1
    obtain ⟨hc1, hf1⟩ := bcell hb1
    have hz1 := hb_lt hb1
    go_wp2
    go_ret
    exact ⟨by simp [blkOk, hq1], (by repeat (first | exact Below.refl _ _ | assumption | apply Ext.alloc | apply Ext.drewN | apply Ext.drew | refine Ext.trans ?_ (by assumption)))⟩
  cases hq2 : btw x.base 0 4294967295
  · go_enter Tryz.func219, Tryz.ntmps219
    go_wp2
    refine wp_region_grow (by kernel_rfl) (by kernel_rfl) ?_
    repeat (go_big_quiet_step (first
      | (go_at_call 63; exact Calls.grow_bool_same hq1 (within_any _ _ _ _))
      | (go_at_call 62; exact Calls.grow_bool_same hq2 (address_any _ _))))
    refine wpQuiet_nil ?_
    intro w1 hb1
    obtain ⟨hc1, hf1⟩ := bcell hb1
    have hz1 := hb_lt hb1
    go_wp2
    go_ret
    exact ⟨by simp [blkOk, hq1, hq2], (by repeat (first | exact Below.refl _ _ | assumption | apply Ext.alloc | apply Ext.drewN | apply Ext.drew | refine Ext.trans ?_ (by assumption)))⟩
  have hq3 := btw_true.1 hq1
  have hq4 := btw_true.1 hq2
  go_enter Tryz.func219, Tryz.ntmps219
  go_wp2
  refine wp_region_grow (by kernel_rfl) (by kernel_rfl) ?_
  repeat (go_big_quiet_step (first
    | (go_at_call 63; exact Calls.grow_bool_same hq1 (within_any _ _ _ _))
    | (go_at_call 62; exact Calls.grow_bool_same hq2 (address_any _ _))
    | (go_at_call 136; exact Calls.grow_of (around_any _ _ _ hq3.1 hq3.2 hq4.1 hq4.2))))
  refine wpQuiet_nil ?_
  intro w1 hb1
  obtain ⟨hc1, hf1⟩ := bcell hb1
  have hz1 := hb_lt hb1
  go_wp2
  go_ret
  exact ⟨ret_bool (by rw [blkOk, hq1, hq2, blk_eq]; rfl), (by repeat (first | exact Below.refl _ _ | assumption | apply Ext.alloc | apply Ext.drewN | apply Ext.drew | refine Ext.trans ?_ (by assumption)))⟩
theorem blkHas_any (x : DBlk) (ip : Int) (w : World) (hx : blkOk x = true) (h0 : 0 ≤ ip) (h1 : ip ≤ 4294967295) :
    Calls Tryz.prog 104 #[.agg #[.int .i64 x.base, .int .i64 x.bits], .int .i64 ip] w fun e w' => e = .returned (.bool (blkHas ip x)) ∧ Below w.heap.size w w' := by
  obtain ⟨b0, b1, b2, b3, b4⟩ := blkOk_true.1 hx
  have B4 := hid b4
  clear b4 hx
  go_enter Tryz.func104, Tryz.ntmps104
  go_wp2
  refine wp_region_grow (by kernel_rfl) (by kernel_rfl) ?_
  repeat (go_big_quiet_step (first
    | (go_at_call 136; exact Calls.grow_of (around_any _ _ _ b0 b1 h0 h1))))
  refine wpQuiet_nil ?_
  intro w1 hb1
  obtain ⟨hc1, hf1⟩ := bcell hb1
  have hz1 := hb_lt hb1
  go_wp2
  go_ret
  exact ⟨ret_bool (by rw [blkHas, has_eq _ _ _ B4.out]), (by repeat (first | exact Below.refl _ _ | assumption | apply Ext.alloc | apply Ext.drewN | apply Ext.drew | refine Ext.trans ?_ (by assumption)))⟩
end Go.Proofs.YtmkjlhplgcifiaaGreat
namespace Go.Proofs.YtmkjlhplgcifiaaGreat
open Go.ChangeShapes Go.WideShapes Go.ChangeAt Go.RowKit
attribute [local simp] World.cell?_grow
attribute [local go_sem] World.cell?_grow
set_option linter.unusedVariables false
set_option linter.unusedSimpArgs false
theorem prtFits_any (x : DPort) (k : DPkt) (w : World) :
    Calls Tryz.prog 105 #[.agg #[.int .i64 x.proto, .int .i64 x.lo, .int .i64 x.hi], .agg #[.int .i64 k.src, .int .i64 k.dst, .int .i64 k.proto, .int .i64 k.port]] w fun e w' => e = .returned (.bool (prtFits k x)) ∧ Below w.heap.size w w' := by
  by_cases h0 : x.proto = 0
  · have HF := hid (show prtFits k x = btw k.port x.lo x.hi by simp [prtFits, h0])
    have h1 : (x.proto == 0) = true := by simp [h0]
    clear h0
    go_enter Tryz.func105, Tryz.ntmps105
    go_wp2_with (go_at_call 63; refine (within_any _ _ _ _).mono ?_; rintro e w' ⟨rfl, rfl⟩)
    go_ret
    exact ⟨ret_bool (by rw [HF.out]), (by repeat (first | exact Below.refl _ _ | assumption | apply Ext.alloc | apply Ext.drewN | apply Ext.drew | refine Ext.trans ?_ (by assumption)))⟩
  · have h1 : (x.proto == 0) = false := by simp [h0]
    by_cases h2 : x.proto = k.proto
    · have HF := hid (show prtFits k x = btw k.port x.lo x.hi by simp [prtFits, h2])
      have h3 : (x.proto == k.proto) = true := by simp [h2]
      clear h2 h0
      go_enter Tryz.func105, Tryz.ntmps105
      go_wp2_with (go_at_call 63; refine (within_any _ _ _ _).mono ?_; rintro e w' ⟨rfl, rfl⟩)
      go_ret
      exact ⟨ret_bool (by rw [HF.out]), (by repeat (first | exact Below.refl _ _ | assumption | apply Ext.alloc | apply Ext.drewN | apply Ext.drew | refine Ext.trans ?_ (by assumption)))⟩
    · have HF := hid (show prtFits k x = false by simp [prtFits, h2, h0])
      have h3 : (x.proto == k.proto) = false := by simp [h2]
      clear h2 h0
      go_enter Tryz.func105, Tryz.ntmps105
      go_wp2_with (go_at_call 63; refine (within_any _ _ _ _).mono ?_; rintro e w' ⟨rfl, rfl⟩)
      go_ret
      exact ⟨ret_bool (by rw [HF.out]), (by repeat (first | exact Below.refl _ _ | assumption | apply Ext.alloc | apply Ext.drewN | apply Ext.drew | refine Ext.trans ?_ (by assumption)))⟩
theorem ends_out (k : DPkt) (w : World) :
    Calls Tryz.prog 92 #[.agg #[.int .i64 k.src, .int .i64 k.dst, .int .i64 k.proto, .int .i64 k.port], .int .i64 1] w fun e w' => e = .returned (.tuple #[.int .i64 k.src, .int .i64 k.dst]) ∧ Below w.heap.size w w' := by
  go_enter Tryz.func92, Tryz.ntmps92
  go_wp2
  refine wp_region_grow (by kernel_rfl) (by kernel_rfl) ?_
  repeat (go_big_quiet_step (fail))
  refine wpQuiet_nil ?_
  intro w1 hb1
  obtain ⟨hc1, hf1⟩ := bcell hb1
  have hz1 := hb_lt hb1
  go_wp2
  go_ret2
  exact ⟨rfl, (by repeat (first | exact Below.refl _ _ | assumption | apply Ext.alloc | apply Ext.drewN | apply Ext.drew | refine Ext.trans ?_ (by assumption)))⟩
theorem ends_in (k : DPkt) (w : World) :
    Calls Tryz.prog 92 #[.agg #[.int .i64 k.src, .int .i64 k.dst, .int .i64 k.proto, .int .i64 k.port], .int .i64 2] w fun e w' => e = .returned (.tuple #[.int .i64 k.dst, .int .i64 k.src]) ∧ Below w.heap.size w w' := by
  go_enter Tryz.func92, Tryz.ntmps92
  go_wp2
  refine wp_region_grow (by kernel_rfl) (by kernel_rfl) ?_
  repeat (go_big_quiet_step (fail))
  refine wpQuiet_nil ?_
  intro w1 hb1
  obtain ⟨hc1, hf1⟩ := bcell hb1
  have hz1 := hb_lt hb1
  go_wp2
  go_ret2
  exact ⟨rfl, (by repeat (first | exact Below.refl _ _ | assumption | apply Ext.alloc | apply Ext.drewN | apply Ext.drew | refine Ext.trans ?_ (by assumption)))⟩
def most (ways way : Int) : Int := if ways = 3 ∨ ways = way then 2 else 0
theorem mostRules_any (ways : Int) (w : World) :
    Calls Tryz.prog 118 #[.int .i64 ways] w fun e w' => e = .returned (.tuple #[.int .i64 (most ways 1), .int .i64 (most ways 2)]) ∧ w' = w := by
  by_cases h3 : ways = 3
  · subst h3
    go_enter Tryz.func118, Tryz.ntmps118
    go_wp2
    go_ret2
    exact ⟨rfl, rfl⟩
  by_cases h1 : ways = 1
  · subst h1
    go_enter Tryz.func118, Tryz.ntmps118
    go_wp2
    go_ret2
    exact ⟨rfl, rfl⟩
  by_cases h2 : ways = 2
  · subst h2
    go_enter Tryz.func118, Tryz.ntmps118
    go_wp2
    go_ret2
    exact ⟨rfl, rfl⟩
  have b1 : (ways == 1) = false := by simp [h1]
  have b2 : (ways == 2) = false := by simp [h2]
  have b3 : (ways == 3) = false := by simp [h3]
  have e1 := hid (show most ways 1 = 0 by simp [most, h1, h3])
  have e2 := hid (show most ways 2 = 0 by simp [most, h2, h3])
  clear h1 h2 h3
  go_enter Tryz.func118, Tryz.ntmps118
  go_wp2
  go_ret2
  exact ⟨by rw [e1.out, e2.out]; rfl, rfl⟩
theorem wraps_i64 (n : Int) (h₀ : 0 ≤ n) (h₁ : n < 2 ^ 8) : IntKind.i64.wrap n = n := by rw [IntKind.wrap_i64]; omega
theorem and_i64 (a b : Int) (h1 : 0 ≤ a) (h2 : a ≤ 255) (h3 : 0 ≤ b) (h4 : b ≤ 255) : bits .and .i64 a b = ((a.toNat &&& b.toNat : Nat) : Int) := by
  obtain ⟨x, rfl⟩ := Int.eq_ofNat_of_zero_le h1
  obtain ⟨y, rfl⟩ := Int.eq_ofNat_of_zero_le h3
  exact (bits_nat .i64 8 (by decide) wraps_i64 x y (by omega) (by omega)).1
theorem bit_int (a : Nat) (i : Nat) : (((a : Int) / 2 ^ i % 2 == 1) : Bool) = a.testBit i := by
  rw [Nat.testBit_eq_decide_div_mod_eq, ibeq]
  have e : ((a : Int) / 2 ^ i % 2) = ((a / 2 ^ i % 2 : Nat) : Int) := by simp
  rw [e]
  by_cases h : a / 2 ^ i % 2 = 1
  · simp [h]
  · have : ¬ ((a / 2 ^ i % 2 : Nat) : Int) = 1 := by omega
    rw [decide_eq_false this, decide_eq_false h]
theorem small_bit (a i : Nat) (h : a < 256) (hi : 8 ≤ i) : a.testBit i = false :=
  Nat.testBit_lt_two_pow (Nat.lt_of_lt_of_le (show a < 2 ^ 8 by omega) (Nat.pow_le_pow_right (by omega) hi))
theorem sels_nat (need ban labels : Nat) (hn : need < 256) (hb : ban < 256) : sels need ban labels = (decide (labels &&& need = need) && decide (labels &&& ban = 0)) := by
  have key : sels need ban labels = true ↔ (labels &&& need = need ∧ labels &&& ban = 0) := by
    simp only [sels, bitOk, bit_int, List.all_eq_true, List.mem_range]
    constructor
    · intro h
      refine ⟨Nat.eq_of_testBit_eq fun i => ?_, Nat.eq_of_testBit_eq fun i => ?_⟩
      · rw [Nat.testBit_and]
        rcases Nat.lt_or_ge i 8 with hi | hi
        · have := h i hi
          cases h1 : labels.testBit i <;> cases h2 : need.testBit i <;> simp_all
        · simp [small_bit need i hn hi]
      · rw [Nat.testBit_and]
        rcases Nat.lt_or_ge i 8 with hi | hi
        · have := h i hi
          cases h1 : labels.testBit i <;> cases h2 : ban.testBit i <;> simp_all
        · simp [small_bit ban i hb hi]
    · rintro ⟨h1, h2⟩ i hi
      have e1 := congrArg (fun x => x.testBit i) h1
      have e2 := congrArg (fun x => x.testBit i) h2
      simp only [Nat.testBit_and, Nat.zero_testBit] at e1 e2
      cases c1 : labels.testBit i <;> cases c2 : need.testBit i <;> cases c3 : ban.testBit i <;> simp_all
  by_cases h : labels &&& need = need ∧ labels &&& ban = 0
  · rw [key.2 h]; simp [h.1, h.2]
  · have : sels need ban labels = false := by
      cases hs : sels need ban labels
      · rfl
      · exact absurd (key.1 hs) h
    rw [this]
    by_cases h1 : labels &&& need = need
    · have h2 : ¬ labels &&& ban = 0 := fun h2 => h ⟨h1, h2⟩
      simp [h2]
    · simp [h1]
theorem sels_bits (need ban labels : Int) (n0 : 0 ≤ need) (n1 : need ≤ 255) (b0 : 0 ≤ ban) (b1 : ban ≤ 255) (l0 : 0 ≤ labels) (l1 : labels ≤ 255) :
    sels need ban labels = ((bits .and .i64 labels need == need) && (bits .and .i64 labels ban == 0)) := by
  rw [and_i64 _ _ l0 l1 n0 n1, and_i64 _ _ l0 l1 b0 b1]
  obtain ⟨a, rfl⟩ := Int.eq_ofNat_of_zero_le n0
  obtain ⟨b, rfl⟩ := Int.eq_ofNat_of_zero_le b0
  obtain ⟨c, rfl⟩ := Int.eq_ofNat_of_zero_le l0
  rw [sels_nat _ _ _ (by omega) (by omega), ibeq, ibeq]
  simp only [Int.toNat_natCast]
  congr 1
  · by_cases h : c &&& a = a
    · simp [h]
    · rw [decide_eq_false h, decide_eq_false (by omega)]
  · by_cases h : c &&& b = 0
    · simp [h]
    · rw [decide_eq_false h, decide_eq_false (by omega)]
theorem selects_any (need ban host ip space labels : Int) (w : World) (n0 : 0 ≤ need) (n1 : need ≤ 255) (b0 : 0 ≤ ban) (b1 : ban ≤ 255) (l0 : 0 ≤ labels) (l1 : labels ≤ 255) :
    Calls Tryz.prog 154 #[.agg #[.int .i64 need, .int .i64 ban], .agg #[.int .i64 host, .int .i64 ip, .int .i64 space, .int .i64 labels]] w fun e w' => e = .returned (.bool (sels need ban labels)) ∧ Below w.heap.size w w' := by
  have HS := hid (sels_bits need ban labels n0 n1 b0 b1 l0 l1)
  cases h1 : (bits .and .i64 labels need == need)
  · have HT := hid (show sels need ban labels = false by rw [HS.out, h1]; rfl)
    go_enter Tryz.func154, Tryz.ntmps154
    go_wp2
    go_ret
    exact ⟨ret_bool (by rw [HT.out]), (by repeat (first | exact Below.refl _ _ | assumption | apply Ext.alloc | apply Ext.drewN | apply Ext.drew | refine Ext.trans ?_ (by assumption)))⟩
  · have HT := hid (show sels need ban labels = (bits .and .i64 labels ban == 0) by rw [HS.out, h1]; rfl)
    go_enter Tryz.func154, Tryz.ntmps154
    go_wp2
    go_ret
    exact ⟨ret_bool (by rw [HT.out]), (by repeat (first | exact Below.refl _ _ | assumption | apply Ext.alloc | apply Ext.drewN | apply Ext.drew | refine Ext.trans ?_ (by assumption)))⟩
end Go.Proofs.YtmkjlhplgcifiaaGreat
