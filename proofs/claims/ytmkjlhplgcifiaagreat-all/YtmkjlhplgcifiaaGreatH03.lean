/-
  Selectors, ports and packets: who is selected, what fits, which end is which.
-/
import Derived.Test.YtmkjlhplgcifiaaGreatH02
import Derived.Test.YtmkjlhplgcifiaaGreatH01
import Derived.Laws.BitsLemmas
namespace Go.Proofs.YtmkjlhplgcifiaaGreat
open Go.ChangeShapes Go.WideShapes Go.ChangeAt Go.RowKit
set_option linter.unusedVariables false
set_option linter.unusedSimpArgs false
attribute [local simp] World.cell?_grow
attribute [local go_sem] World.cell?_grow
theorem prtFits_any (x : DPort) (k : DPkt) (w : World) :
    Calls Tryz.prog 105 #[.agg #[.int .i64 x.proto, .int .i64 x.lo, .int .i64 x.hi], .agg #[.int .i64 k.src, .int .i64 k.dst, .int .i64 k.proto, .int .i64 k.port]] w fun e w' => e = .returned (.bool (prtFits k x)) ∧ Below w.heap.size w w' := by
  by_cases h0 : x.proto = 0
  · have HF := hid (show prtFits k x = btw k.port x.lo x.hi by simp [prtFits, h0])
    have h1 : (x.proto == 0) = true := by simp [h0]
    clear h0
    go_enter Tryz.func105, Tryz.ntmps105
    go_wp2_with (go_at_call 63; refine (within_any _ _ _ _).mono ?_; rintro e w' ⟨rfl, rfl⟩)
    go_ret
    exact ⟨ret_bool (by rw [HF.out]), bel⟩
  · have h1 : (x.proto == 0) = false := by simp [h0]
    by_cases h2 : x.proto = k.proto
    · have HF := hid (show prtFits k x = btw k.port x.lo x.hi by simp [prtFits, h2])
      have h3 : (x.proto == k.proto) = true := by simp [h2]
      clear h2 h0
      go_enter Tryz.func105, Tryz.ntmps105
      go_wp2_with (go_at_call 63; refine (within_any _ _ _ _).mono ?_; rintro e w' ⟨rfl, rfl⟩)
      go_ret
      exact ⟨ret_bool (by rw [HF.out]), bel⟩
    · have HF := hid (show prtFits k x = false by simp [prtFits, h2, h0])
      have h3 : (x.proto == k.proto) = false := by simp [h2]
      clear h2 h0
      go_enter Tryz.func105, Tryz.ntmps105
      go_wp2_with (go_at_call 63; refine (within_any _ _ _ _).mono ?_; rintro e w' ⟨rfl, rfl⟩)
      go_ret
      exact ⟨ret_bool (by rw [HF.out]), bel⟩
theorem ends_out (k : DPkt) (w : World) :
    Calls Tryz.prog 92 #[.agg #[.int .i64 k.src, .int .i64 k.dst, .int .i64 k.proto, .int .i64 k.port], .int .i64 1] w fun e w' => e = .returned (.tuple #[.int .i64 k.src, .int .i64 k.dst]) ∧ Below w.heap.size w w' := by
  go_enter Tryz.func92, Tryz.ntmps92
  go_wp2
  refine wp_region_grow (by kernel_rfl) (by kernel_rfl) ?_
  repeat (go_big_quiet_step (fail))
  refine wpQuiet_nil ?_
  intro w1 hb1
  obtain ⟨hc1, hf1⟩ := bcell hb1
  have hz1 := hb_lt hb1
  go_wp2
  go_ret2
  exact ⟨rfl, bel⟩
theorem ends_in (k : DPkt) (w : World) :
    Calls Tryz.prog 92 #[.agg #[.int .i64 k.src, .int .i64 k.dst, .int .i64 k.proto, .int .i64 k.port], .int .i64 2] w fun e w' => e = .returned (.tuple #[.int .i64 k.dst, .int .i64 k.src]) ∧ Below w.heap.size w w' := by
  go_enter Tryz.func92, Tryz.ntmps92
  go_wp2
  refine wp_region_grow (by kernel_rfl) (by kernel_rfl) ?_
  repeat (go_big_quiet_step (fail))
  refine wpQuiet_nil ?_
  intro w1 hb1
  obtain ⟨hc1, hf1⟩ := bcell hb1
  have hz1 := hb_lt hb1
  go_wp2
  go_ret2
  exact ⟨rfl, bel⟩
def most (ways way : Int) : Int := if ways = 3 ∨ ways = way then 2 else 0
theorem mostRules_any (ways : Int) (w : World) :
    Calls Tryz.prog 118 #[.int .i64 ways] w fun e w' => e = .returned (.tuple #[.int .i64 (most ways 1), .int .i64 (most ways 2)]) ∧ w' = w := by
  by_cases h3 : ways = 3
  · subst h3
    go_enter Tryz.func118, Tryz.ntmps118
    go_wp2
    go_ret2
    exact ⟨rfl, rfl⟩
  by_cases h1 : ways = 1
  · subst h1
    go_enter Tryz.func118, Tryz.ntmps118
    go_wp2
    go_ret2
    exact ⟨rfl, rfl⟩
  by_cases h2 : ways = 2
  · subst h2
    go_enter Tryz.func118, Tryz.ntmps118
    go_wp2
    go_ret2
    exact ⟨rfl, rfl⟩
  have b1 : (ways == 1) = false := by simp [h1]
  have b2 : (ways == 2) = false := by simp [h2]
  have b3 : (ways == 3) = false := by simp [h3]
  have e1 := hid (show most ways 1 = 0 by simp [most, h1, h3])
  have e2 := hid (show most ways 2 = 0 by simp [most, h2, h3])
  clear h1 h2 h3
  go_enter Tryz.func118, Tryz.ntmps118
  go_wp2
  go_ret2
  exact ⟨by rw [e1.out, e2.out]; rfl, rfl⟩
theorem pow8 (k : Nat) (h : k ≤ 8) : (1 : Int) ≤ 2 ^ k ∧ (2 : Int) ^ k ≤ 256 := by
  have : (2 : Nat) ^ k ≤ 2 ^ 8 := Nat.pow_le_pow_right (by omega) h
  have h0 : 0 < (2 : Nat) ^ k := Nat.pow_pos (by omega)
  have e : ((2 : Int) ^ k) = ((2 ^ k : Nat) : Int) := by simp
  rw [e]
  omega
theorem all_take_succ (f : Nat → Bool) (k : Nat) (h : (List.range k).all f = true) (hf : f k = true) : (List.range (k + 1)).all f = true := by
  rw [List.range_succ, List.all_append, h]; simp [hf]
theorem all_bad (f : Nat → Bool) (k n : Nat) (hk : k < n) (hf : f k = false) : (List.range n).all f = false := by
  rw [Bool.eq_false_iff]
  intro h
  have := List.all_eq_true.1 h k (List.mem_range.2 hk)
  rw [hf] at this
  cases this
set_option maxHeartbeats 4000000 in
theorem refSelects_any (need ban labels : Int) (w : World) (n0 : 0 ≤ need) (n1 : need ≤ 255) (b0 : 0 ≤ ban) (b1 : ban ≤ 255) (l0 : 0 ≤ labels) (l1 : labels ≤ 255) :
    Calls Tryz.prog 139 #[.agg #[.int .i64 need, .int .i64 ban], .int .i64 labels] w fun e w' => e = .returned (.bool (sels need ban labels)) ∧ Below w.heap.size w w' := by
  go_enter Tryz.func139, Tryz.ntmps139
  go_wp2
  go_loop [5, 6] (fun n i => ∃ k : Nat, k ≤ 8 ∧ i = .int .i64 k ∧ n = .int .i64 (2 ^ k) ∧ (List.range k).all (fun j => bitOk need ban labels (2 ^ j)) = true) (fun _ i => (8 - intOf i).toNat)
  case atStart => exact ⟨0, by omega, rfl, rfl, rfl⟩
  case round =>
    obtain ⟨k, hk, rfl, rfl, hall⟩ := hrel
    have hp := pow8 k hk
    have HA := hid hall
    have HS := hid (show (2 : Int) ^ (k + 1) = 2 * 2 ^ k by rw [Int.pow_succ, Int.mul_comm])
    have HB := hid (show ∀ b, bitOk need ban labels (2 ^ k) = b → bitOk need ban labels (2 ^ k) = b from fun b h => h)
    clear hall
    by_cases hlt : k < 8
    · generalize hu : (2 : Int) ^ k = u at *
      have HU := hid hu
      clear hu
      have hp3 : 2 * u ≤ 512 := by omega
      have q1 : 0 ≤ need / u := Int.ediv_nonneg n0 (by omega)
      have q2 : 0 ≤ labels / u := Int.ediv_nonneg l0 (by omega)
      have q3 : 0 ≤ ban / u := Int.ediv_nonneg b0 (by omega)
      cases hbit : bitOk need ban labels u
      · cases c1 : (need / u % 2 == 1) <;> cases c2 : (labels / u % 2 == 1) <;> cases c3 : (ban / u % 2 == 1)
        all_goals (try (exfalso; revert hbit; rw [bitOk, c1, c2, c3]; decide))
        all_goals
          have HC := hid hbit
          clear hbit
          go_wp2
          go_ret
          exact ⟨ret_bool (by rw [sels, all_bad _ k 8 hlt (by rw [HU.out, HC.out])]), bel⟩
      · cases c1 : (need / u % 2 == 1) <;> cases c2 : (labels / u % 2 == 1) <;> cases c3 : (ban / u % 2 == 1)
        all_goals (try (exfalso; revert hbit; rw [bitOk, c1, c2, c3]; decide))
        all_goals
          have HC := hid hbit
          clear hbit
          go_wp2
          go_round
          case rel => exact ⟨k + 1, by omega, by go_num, by rw [HS.out], all_take_succ _ k HA.out (by rw [HU.out, HC.out])⟩
          case measure => simp [intOf]; omega
    · have e : k = 8 := by omega
      subst e
      go_wp2
      go_ret
      exact ⟨ret_bool (by rw [sels, HA.out]), bel⟩
theorem wraps_i64 (n : Int) (h₀ : 0 ≤ n) (h₁ : n < 2 ^ 8) : IntKind.i64.wrap n = n := by rw [IntKind.wrap_i64]; omega
theorem and_i64 (a b : Int) (h1 : 0 ≤ a) (h2 : a ≤ 255) (h3 : 0 ≤ b) (h4 : b ≤ 255) : bits .and .i64 a b = ((a.toNat &&& b.toNat : Nat) : Int) := by
  obtain ⟨x, rfl⟩ := Int.eq_ofNat_of_zero_le h1
  obtain ⟨y, rfl⟩ := Int.eq_ofNat_of_zero_le h3
  exact (bits_nat .i64 8 (by decide) wraps_i64 x y (by omega) (by omega)).1
theorem bit_int (a : Nat) (i : Nat) : (((a : Int) / 2 ^ i % 2 == 1) : Bool) = a.testBit i := by
  rw [Nat.testBit_eq_decide_div_mod_eq, ibeq]
  have e : ((a : Int) / 2 ^ i % 2) = ((a / 2 ^ i % 2 : Nat) : Int) := by simp
  rw [e]
  by_cases h : a / 2 ^ i % 2 = 1
  · simp [h]
  · have : ¬ ((a / 2 ^ i % 2 : Nat) : Int) = 1 := by omega
    rw [decide_eq_false this, decide_eq_false h]
theorem small_bit (a i : Nat) (h : a < 256) (hi : 8 ≤ i) : a.testBit i = false :=
  Nat.testBit_lt_two_pow (Nat.lt_of_lt_of_le (show a < 2 ^ 8 by omega) (Nat.pow_le_pow_right (by omega) hi))
theorem sels_nat (need ban labels : Nat) (hn : need < 256) (hb : ban < 256) : sels need ban labels = (decide (labels &&& need = need) && decide (labels &&& ban = 0)) := by
  have key : sels need ban labels = true ↔ (labels &&& need = need ∧ labels &&& ban = 0) := by
    simp only [sels, bitOk, bit_int, List.all_eq_true, List.mem_range]
    constructor
    · intro h
      refine ⟨Nat.eq_of_testBit_eq fun i => ?_, Nat.eq_of_testBit_eq fun i => ?_⟩
      · rw [Nat.testBit_and]
        rcases Nat.lt_or_ge i 8 with hi | hi
        · have := h i hi
          cases h1 : labels.testBit i <;> cases h2 : need.testBit i <;> simp_all
        · simp [small_bit need i hn hi]
      · rw [Nat.testBit_and]
        rcases Nat.lt_or_ge i 8 with hi | hi
        · have := h i hi
          cases h1 : labels.testBit i <;> cases h2 : ban.testBit i <;> simp_all
        · simp [small_bit ban i hb hi]
    · rintro ⟨h1, h2⟩ i hi
      have e1 := congrArg (fun x => x.testBit i) h1
      have e2 := congrArg (fun x => x.testBit i) h2
      simp only [Nat.testBit_and, Nat.zero_testBit] at e1 e2
      cases c1 : labels.testBit i <;> cases c2 : need.testBit i <;> cases c3 : ban.testBit i <;> simp_all
  by_cases h : labels &&& need = need ∧ labels &&& ban = 0
  · rw [key.2 h]; simp [h.1, h.2]
  · have : sels need ban labels = false := by
      cases hs : sels need ban labels
      · rfl
      · exact absurd (key.1 hs) h
    rw [this]
    by_cases h1 : labels &&& need = need
    · have h2 : ¬ labels &&& ban = 0 := fun h2 => h ⟨h1, h2⟩
      simp [h2]
    · simp [h1]
theorem sels_bits (need ban labels : Int) (n0 : 0 ≤ need) (n1 : need ≤ 255) (b0 : 0 ≤ ban) (b1 : ban ≤ 255) (l0 : 0 ≤ labels) (l1 : labels ≤ 255) :
    sels need ban labels = ((bits .and .i64 labels need == need) && (bits .and .i64 labels ban == 0)) := by
  rw [and_i64 _ _ l0 l1 n0 n1, and_i64 _ _ l0 l1 b0 b1]
  obtain ⟨a, rfl⟩ := Int.eq_ofNat_of_zero_le n0
  obtain ⟨b, rfl⟩ := Int.eq_ofNat_of_zero_le b0
  obtain ⟨c, rfl⟩ := Int.eq_ofNat_of_zero_le l0
  rw [sels_nat _ _ _ (by omega) (by omega), ibeq, ibeq]
  simp only [Int.toNat_natCast]
  congr 1
  · by_cases h : c &&& a = a
    · simp [h]
    · rw [decide_eq_false h, decide_eq_false (by omega)]
  · by_cases h : c &&& b = 0
    · simp [h]
    · rw [decide_eq_false h, decide_eq_false (by omega)]
theorem selects_any (need ban host ip space labels : Int) (w : World) (n0 : 0 ≤ need) (n1 : need ≤ 255) (b0 : 0 ≤ ban) (b1 : ban ≤ 255) (l0 : 0 ≤ labels) (l1 : labels ≤ 255) :
    Calls Tryz.prog 154 #[.agg #[.int .i64 need, .int .i64 ban], .agg #[.int .i64 host, .int .i64 ip, .int .i64 space, .int .i64 labels]] w fun e w' => e = .returned (.bool (sels need ban labels)) ∧ Below w.heap.size w w' := by
  have HS := hid (sels_bits need ban labels n0 n1 b0 b1 l0 l1)
  cases h1 : (bits .and .i64 labels need == need)
  · have HT := hid (show sels need ban labels = false by rw [HS.out, h1]; rfl)
    go_enter Tryz.func154, Tryz.ntmps154
    go_wp2
    go_ret
    exact ⟨ret_bool (by rw [HT.out]), bel⟩
  · have HT := hid (show sels need ban labels = (bits .and .i64 labels ban == 0) by rw [HS.out, h1]; rfl)
    go_enter Tryz.func154, Tryz.ntmps154
    go_wp2
    go_ret
    exact ⟨ret_bool (by rw [HT.out]), bel⟩
end Go.Proofs.YtmkjlhplgcifiaaGreat
namespace Go.Proofs.YtmkjlhplgcifiaaGreat
open Go.ChangeShapes Go.WideShapes Go.ChangeAt Go.RowKit
set_option linter.unusedVariables false
set_option linter.unusedSimpArgs false
attribute [local simp] World.cell?_grow
attribute [local go_sem] World.cell?_grow eqg_blk std_blk eqg_pod std_pod eqg_sel std_sel eqg_prt std_prt
attribute [local go_sem ↓] eql_blk eql_sel neq_sel eql_prt eql_pod
theorem all_false {α : Type} {l : List α} {f : α → Bool} {k : Nat} {x : α} (h : l[k]? = some x) (hf : f x = false) : l.all f = false := by
  rw [Bool.eq_false_iff]
  intro h2
  have := List.all_eq_true.1 h2 x (List.mem_of_getElem? h)
  rw [hf] at this
  cases this
theorem any_true {α : Type} {l : List α} {f : α → Bool} {k : Nat} {x : α} (h : l[k]? = some x) (hf : f x = true) : l.any f = true :=
  List.any_eq_true.2 ⟨x, List.mem_of_getElem? h, hf⟩
theorem take_all {α : Type} {l : List α} {f : α → Bool} {k : Nat} {x : α} (h : l[k]? = some x) (hall : (l.take k).all f = true) (hf : f x = true) : (l.take (k + 1)).all f = true := by
  rw [List.take_add_one, h, List.all_append, hall]; simp [hf]
theorem take_any {α : Type} {l : List α} {f : α → Bool} {k : Nat} {x : α} (h : l[k]? = some x) (hall : (l.take k).any f = false) (hf : f x = false) : (l.take (k + 1)).any f = false := by
  rw [List.take_add_one, h, List.any_append, hall]; simp [hf]
theorem rdBlks.to {w w' : World} {a : Option Addr} {l : List DBlk} (h : rdBlks w.heap.size w a l) (hb : Below w.heap.size w w') : rdBlks w'.heap.size w' a l := rdBlks.ext hb hb.size h
theorem rdPods.to {w w' : World} {a : Option Addr} {l : List DPod} (h : rdPods w.heap.size w a l) (hb : Below w.heap.size w w') : rdPods w'.heap.size w' a l := rdPods.ext hb hb.size h
theorem rdPorts.to {w w' : World} {a : Option Addr} {l : List DPort} (h : rdPorts w.heap.size w a l) (hb : Below w.heap.size w w') : rdPorts w'.heap.size w' a l := rdPorts.ext hb hb.size h
theorem rdPeers.to {w w' : World} {a : Option Addr} {l : List DPeer} (h : rdPeers w.heap.size w a l) (hb : Below w.heap.size w w') : rdPeers w'.heap.size w' a l := rdPeers.ext hb hb.size h
theorem rdRules.to {w w' : World} {a : Option Addr} {l : List DRule} (h : rdRules w.heap.size w a l) (hb : Below w.heap.size w w') : rdRules w'.heap.size w' a l := rdRules.ext hb hb.size h
theorem rdPols.to {w w' : World} {a : Option Addr} {l : List DPol} (h : rdPols w.heap.size w a l) (hb : Below w.heap.size w w') : rdPols w'.heap.size w' a l := rdPols.ext hb hb.size h
theorem allBlk (f : DBlk → Bool) (a : Option Addr) (cap : Nat) (l : List DBlk) (w : World) (hl : rdBlks w.heap.size w a l)
    (hK : ∀ (x : DBlk) (w1 : World), x ∈ l → Below w.heap.size w w1 → Calls Tryz.prog 219 #[.agg #[.int .i64 x.base, .int .i64 x.bits]] w1 fun e w2 => e = .returned (.bool (f x)) ∧ Below w1.heap.size w1 w2) :
    Calls Tryz.prog 221 #[.slice a l.length cap, .func (.func 219) #[] #[]] w fun e w' => e = .returned (.bool (l.all f)) ∧ Below w.heap.size w w' := by
  have HK := hid hK
  obtain ⟨hlen, hl⟩ := hl
  have HL := hid hl
  clear hl hK
  go_enter Tryz.func221, Tryz.ntmps221
  go_wp2
  go_loopw [9] (fun i wr => ∃ k : Nat, k ≤ l.length ∧ i = .int .i64 k ∧ (l.take k).all f = true ∧ Below w.heap.size w wr) (fun i _ => l.length - (intOf i).toNat)
  case atStart => exact ⟨0, Nat.zero_le _, rfl, rfl, Below.refl _ _⟩
  case round =>
    obtain ⟨k, hk, rfl, hall, hbw⟩ := hrel
    have HA := hid hall
    clear hall
    by_cases hlt : k < l.length
    · obtain ⟨hc, hf⟩ := bcell hbw
      obtain ⟨x, hxk⟩ : ∃ x, l[k]? = some x := ⟨l[k], by simp [hlt]⟩
      have HX := hid hxk
      clear hxk
      obtain ⟨b, off, rfl, hb, c0, c1⟩ := HL.out k x HX.out
      cases hx : f x
      · go_wp2_with (go_at_call 219; refine (HK.out x _ (List.mem_of_getElem? HX.out) bel).mono ?_; rintro e w1 ⟨rfl, hb1⟩)
        go_ret
        exact ⟨ret_bool (by rw [all_false HX.out hx]), bel⟩
      · go_wp2_with (go_at_call 219; refine (HK.out x _ (List.mem_of_getElem? HX.out) bel).mono ?_; rintro e w1 ⟨rfl, hb1⟩)
        exact ⟨⟨k + 1, by omega, by go_num, take_all HX.out HA.out hx, bel⟩, by simp [intOf]; omega⟩
    · go_wp2
      go_ret
      have := HA.out
      rw [List.take_of_length_le (by omega)] at this
      exact ⟨ret_bool (by rw [this]), hbw⟩
theorem fewBlk (f : DBlk → Bool) (a : Option Addr) (cap : Nat) (l : List DBlk) (most : Int) (w : World) (hl : rdBlks w.heap.size w a l)
    (hK : ∀ (x : DBlk) (w1 : World), x ∈ l → Below w.heap.size w w1 → Calls Tryz.prog 219 #[.agg #[.int .i64 x.base, .int .i64 x.bits]] w1 fun e w2 => e = .returned (.bool (f x)) ∧ Below w1.heap.size w1 w2) :
    Calls Tryz.prog 220 #[.slice a l.length cap, .int .i64 most, .func (.func 219) #[] #[]] w fun e w' => e = .returned (.bool (few l most f)) ∧ Below w.heap.size w w' := by
  have HK := hid hK
  have HL := hid hl
  have hlen := hl.1
  clear hK hl
  by_cases h : (l.length : Int) ≤ most
  · have HF := hid (show few l most f = l.all f by simp [few, h])
    go_enter Tryz.func220, Tryz.ntmps220
    go_wp2_with (go_at_call 221; refine (allBlk f _ _ _ _ HL.out HK.out).mono ?_; rintro e w1 ⟨rfl, hb1⟩)
    go_ret
    exact ⟨ret_bool (by rw [HF.out]), bel⟩
  · have HF := hid (show few l most f = false by simp [few, h])
    go_enter Tryz.func220, Tryz.ntmps220
    go_wp2
    go_ret
    exact ⟨ret_bool (by rw [HF.out]), bel⟩
theorem anyBlk (f : DBlk → Bool) (k0 : Value) (a : Option Addr) (cap : Nat) (l : List DBlk) (w : World) (hl : rdBlks w.heap.size w a l)
    (hK : ∀ (x : DBlk) (w1 : World), x ∈ l → Below w.heap.size w w1 → Calls Tryz.prog 234 #[.agg #[.int .i64 x.base, .int .i64 x.bits], k0] w1 fun e w2 => e = .returned (.bool (f x)) ∧ Below w1.heap.size w1 w2) :
    Calls Tryz.prog 235 #[.slice a l.length cap, .func (.func 234) #[] #[k0]] w fun e w' => e = .returned (.bool (l.any f)) ∧ Below w.heap.size w w' := by
  have HK := hid hK
  obtain ⟨hlen, hl⟩ := hl
  have HL := hid hl
  clear hl hK
  go_enter Tryz.func235, Tryz.ntmps235
  go_wp2
  go_loopw [9] (fun i wr => ∃ k : Nat, k ≤ l.length ∧ i = .int .i64 k ∧ (l.take k).any f = false ∧ Below w.heap.size w wr) (fun i _ => l.length - (intOf i).toNat)
  case atStart => exact ⟨0, Nat.zero_le _, rfl, rfl, Below.refl _ _⟩
  case round =>
    obtain ⟨k, hk, rfl, hall, hbw⟩ := hrel
    have HA := hid hall
    clear hall
    by_cases hlt : k < l.length
    · obtain ⟨hc, hf⟩ := bcell hbw
      obtain ⟨x, hxk⟩ : ∃ x, l[k]? = some x := ⟨l[k], by simp [hlt]⟩
      have HX := hid hxk
      clear hxk
      obtain ⟨b, off, rfl, hb, c0, c1⟩ := HL.out k x HX.out
      cases hx : f x
      · go_wp2_with (go_at_call 234; refine (HK.out x _ (List.mem_of_getElem? HX.out) bel).mono ?_; rintro e w1 ⟨rfl, hb1⟩)
        exact ⟨⟨k + 1, by omega, by go_num, take_any HX.out HA.out hx, bel⟩, by simp [intOf]; omega⟩
      · go_wp2_with (go_at_call 234; refine (HK.out x _ (List.mem_of_getElem? HX.out) bel).mono ?_; rintro e w1 ⟨rfl, hb1⟩)
        go_ret
        exact ⟨ret_bool (by rw [any_true HX.out hx]), bel⟩
    · go_wp2
      go_ret
      have := HA.out
      rw [List.take_of_length_le (by omega)] at this
      exact ⟨ret_bool (by rw [this]), hbw⟩
theorem allPort (f : DPort → Bool) (a : Option Addr) (cap : Nat) (l : List DPort) (w : World) (hl : rdPorts w.heap.size w a l)
    (hK : ∀ (x : DPort) (w1 : World), x ∈ l → Below w.heap.size w w1 → Calls Tryz.prog 153 #[.agg #[.int .i64 x.proto, .int .i64 x.lo, .int .i64 x.hi]] w1 fun e w2 => e = .returned (.bool (f x)) ∧ Below w1.heap.size w1 w2) :
    Calls Tryz.prog 173 #[.slice a l.length cap, .func (.func 153) #[] #[]] w fun e w' => e = .returned (.bool (l.all f)) ∧ Below w.heap.size w w' := by
  have HK := hid hK
  obtain ⟨hlen, hl⟩ := hl
  have HL := hid hl
  clear hl hK
  go_enter Tryz.func173, Tryz.ntmps173
  go_wp2
  go_loopw [9] (fun i wr => ∃ k : Nat, k ≤ l.length ∧ i = .int .i64 k ∧ (l.take k).all f = true ∧ Below w.heap.size w wr) (fun i _ => l.length - (intOf i).toNat)
  case atStart => exact ⟨0, Nat.zero_le _, rfl, rfl, Below.refl _ _⟩
  case round =>
    obtain ⟨k, hk, rfl, hall, hbw⟩ := hrel
    have HA := hid hall
    clear hall
    by_cases hlt : k < l.length
    · obtain ⟨hc, hf⟩ := bcell hbw
      obtain ⟨x, hxk⟩ : ∃ x, l[k]? = some x := ⟨l[k], by simp [hlt]⟩
      have HX := hid hxk
      clear hxk
      obtain ⟨b, off, rfl, hb, c0, c1, c2⟩ := HL.out k x HX.out
      cases hx : f x
      · go_wp2_with (go_at_call 153; refine (HK.out x _ (List.mem_of_getElem? HX.out) bel).mono ?_; rintro e w1 ⟨rfl, hb1⟩)
        go_ret
        exact ⟨ret_bool (by rw [all_false HX.out hx]), bel⟩
      · go_wp2_with (go_at_call 153; refine (HK.out x _ (List.mem_of_getElem? HX.out) bel).mono ?_; rintro e w1 ⟨rfl, hb1⟩)
        exact ⟨⟨k + 1, by omega, by go_num, take_all HX.out HA.out hx, bel⟩, by simp [intOf]; omega⟩
    · go_wp2
      go_ret
      have := HA.out
      rw [List.take_of_length_le (by omega)] at this
      exact ⟨ret_bool (by rw [this]), hbw⟩
theorem fewPort (f : DPort → Bool) (a : Option Addr) (cap : Nat) (l : List DPort) (most : Int) (w : World) (hl : rdPorts w.heap.size w a l)
    (hK : ∀ (x : DPort) (w1 : World), x ∈ l → Below w.heap.size w w1 → Calls Tryz.prog 153 #[.agg #[.int .i64 x.proto, .int .i64 x.lo, .int .i64 x.hi]] w1 fun e w2 => e = .returned (.bool (f x)) ∧ Below w1.heap.size w1 w2) :
    Calls Tryz.prog 152 #[.slice a l.length cap, .int .i64 most, .func (.func 153) #[] #[]] w fun e w' => e = .returned (.bool (few l most f)) ∧ Below w.heap.size w w' := by
  have HK := hid hK
  have HL := hid hl
  have hlen := hl.1
  clear hK hl
  by_cases h : (l.length : Int) ≤ most
  · have HF := hid (show few l most f = l.all f by simp [few, h])
    go_enter Tryz.func152, Tryz.ntmps152
    go_wp2_with (go_at_call 173; refine (allPort f _ _ _ _ HL.out HK.out).mono ?_; rintro e w1 ⟨rfl, hb1⟩)
    go_ret
    exact ⟨ret_bool (by rw [HF.out]), bel⟩
  · have HF := hid (show few l most f = false by simp [few, h])
    go_enter Tryz.func152, Tryz.ntmps152
    go_wp2
    go_ret
    exact ⟨ret_bool (by rw [HF.out]), bel⟩
theorem anyPort (f : DPort → Bool) (k0 : Value) (a : Option Addr) (cap : Nat) (l : List DPort) (w : World) (hl : rdPorts w.heap.size w a l)
    (hK : ∀ (x : DPort) (w1 : World), x ∈ l → Below w.heap.size w w1 → Calls Tryz.prog 159 #[.agg #[.int .i64 x.proto, .int .i64 x.lo, .int .i64 x.hi], k0] w1 fun e w2 => e = .returned (.bool (f x)) ∧ Below w1.heap.size w1 w2) :
    Calls Tryz.prog 175 #[.slice a l.length cap, .func (.func 159) #[] #[k0]] w fun e w' => e = .returned (.bool (l.any f)) ∧ Below w.heap.size w w' := by
  have HK := hid hK
  obtain ⟨hlen, hl⟩ := hl
  have HL := hid hl
  clear hl hK
  go_enter Tryz.func175, Tryz.ntmps175
  go_wp2
  go_loopw [9] (fun i wr => ∃ k : Nat, k ≤ l.length ∧ i = .int .i64 k ∧ (l.take k).any f = false ∧ Below w.heap.size w wr) (fun i _ => l.length - (intOf i).toNat)
  case atStart => exact ⟨0, Nat.zero_le _, rfl, rfl, Below.refl _ _⟩
  case round =>
    obtain ⟨k, hk, rfl, hall, hbw⟩ := hrel
    have HA := hid hall
    clear hall
    by_cases hlt : k < l.length
    · obtain ⟨hc, hf⟩ := bcell hbw
      obtain ⟨x, hxk⟩ : ∃ x, l[k]? = some x := ⟨l[k], by simp [hlt]⟩
      have HX := hid hxk
      clear hxk
      obtain ⟨b, off, rfl, hb, c0, c1, c2⟩ := HL.out k x HX.out
      cases hx : f x
      · go_wp2_with (go_at_call 159; refine (HK.out x _ (List.mem_of_getElem? HX.out) bel).mono ?_; rintro e w1 ⟨rfl, hb1⟩)
        exact ⟨⟨k + 1, by omega, by go_num, take_any HX.out HA.out hx, bel⟩, by simp [intOf]; omega⟩
      · go_wp2_with (go_at_call 159; refine (HK.out x _ (List.mem_of_getElem? HX.out) bel).mono ?_; rintro e w1 ⟨rfl, hb1⟩)
        go_ret
        exact ⟨ret_bool (by rw [any_true HX.out hx]), bel⟩
    · go_wp2
      go_ret
      have := HA.out
      rw [List.take_of_length_le (by omega)] at this
      exact ⟨ret_bool (by rw [this]), hbw⟩
theorem eoaPort (f : DPort → Bool) (k0 : Value) (a : Option Addr) (cap : Nat) (l : List DPort) (w : World) (hl : rdPorts w.heap.size w a l)
    (hK : ∀ (x : DPort) (w1 : World), x ∈ l → Below w.heap.size w w1 → Calls Tryz.prog 159 #[.agg #[.int .i64 x.proto, .int .i64 x.lo, .int .i64 x.hi], k0] w1 fun e w2 => e = .returned (.bool (f x)) ∧ Below w1.heap.size w1 w2) :
    Calls Tryz.prog 158 #[.slice a l.length cap, .func (.func 159) #[] #[k0]] w fun e w' => e = .returned (.bool (eoa l f)) ∧ Below w.heap.size w w' := by
  have HK := hid hK
  have HL := hid hl
  have hlen := hl.1
  clear hK hl
  by_cases h : l.length = 0
  · have HF := hid (show eoa l f = true by simp [eoa, h])
    have h2 : ((l.length : Int) == 0) = true := by simp [h]
    go_enter Tryz.func158, Tryz.ntmps158
    go_wp2
    go_ret
    exact ⟨ret_bool (by rw [HF.out]), bel⟩
  · have HF := hid (show eoa l f = l.any f by simp [eoa, h])
    have h2 : ((l.length : Int) == 0) = false := by simp [h]
    go_enter Tryz.func158, Tryz.ntmps158
    go_wp2_with (go_at_call 175; refine (anyPort f _ _ _ _ _ HL.out HK.out).mono ?_; rintro e w1 ⟨rfl, hb1⟩)
    go_ret
    exact ⟨ret_bool (by rw [HF.out]), bel⟩
theorem allPeer (f : DPeer → Bool) (a : Option Addr) (cap : Nat) (l : List DPeer) (w : World) (hl : rdPeers w.heap.size w a l)
    (hK : ∀ (x : DPeer) (ea : Option Addr) (ec : Nat) (w1 : World), x ∈ l → Below w.heap.size w w1 → rdBlks w1.heap.size w1 ea x.exc → Calls Tryz.prog 151 #[.agg #[.int .i64 x.kind, .int .i64 x.need, .int .i64 x.ban, .int .i64 x.spaces, .int .i64 x.base, .int .i64 x.bits, .slice ea x.exc.length ec]] w1 fun e w2 => e = .returned (.bool (f x)) ∧ Below w1.heap.size w1 w2) :
    Calls Tryz.prog 171 #[.slice a l.length cap, .func (.func 151) #[] #[]] w fun e w' => e = .returned (.bool (l.all f)) ∧ Below w.heap.size w w' := by
  have HK := hid hK
  obtain ⟨hlen, hl⟩ := hl
  have HL := hid hl
  clear hl hK
  go_enter Tryz.func171, Tryz.ntmps171
  go_wp2
  go_loopw [9] (fun i wr => ∃ k : Nat, k ≤ l.length ∧ i = .int .i64 k ∧ (l.take k).all f = true ∧ Below w.heap.size w wr) (fun i _ => l.length - (intOf i).toNat)
  case atStart => exact ⟨0, Nat.zero_le _, rfl, rfl, Below.refl _ _⟩
  case round =>
    obtain ⟨k, hk, rfl, hall, hbw⟩ := hrel
    have HA := hid hall
    clear hall
    by_cases hlt : k < l.length
    · obtain ⟨hc, hf⟩ := bcell hbw
      obtain ⟨x, hxk⟩ : ∃ x, l[k]? = some x := ⟨l[k], by simp [hlt]⟩
      have HX := hid hxk
      clear hxk
      obtain ⟨b, off, rfl, hb, c0, c1, c2, c3, c4, c5, ea, ec, c6, hre⟩ := HL.out k x HX.out
      cases hx : f x
      · go_wp2_with (go_at_call 151; refine (HK.out x ea ec _ (List.mem_of_getElem? HX.out) bel (rdBlks.to hre bel)).mono ?_; rintro e w1 ⟨rfl, hb1⟩)
        go_ret
        exact ⟨ret_bool (by rw [all_false HX.out hx]), bel⟩
      · go_wp2_with (go_at_call 151; refine (HK.out x ea ec _ (List.mem_of_getElem? HX.out) bel (rdBlks.to hre bel)).mono ?_; rintro e w1 ⟨rfl, hb1⟩)
        exact ⟨⟨k + 1, by omega, by go_num, take_all HX.out HA.out hx, bel⟩, by simp [intOf]; omega⟩
    · go_wp2
      go_ret
      have := HA.out
      rw [List.take_of_length_le (by omega)] at this
      exact ⟨ret_bool (by rw [this]), hbw⟩
theorem fewPeer (f : DPeer → Bool) (a : Option Addr) (cap : Nat) (l : List DPeer) (most : Int) (w : World) (hl : rdPeers w.heap.size w a l)
    (hK : ∀ (x : DPeer) (ea : Option Addr) (ec : Nat) (w1 : World), x ∈ l → Below w.heap.size w w1 → rdBlks w1.heap.size w1 ea x.exc → Calls Tryz.prog 151 #[.agg #[.int .i64 x.kind, .int .i64 x.need, .int .i64 x.ban, .int .i64 x.spaces, .int .i64 x.base, .int .i64 x.bits, .slice ea x.exc.length ec]] w1 fun e w2 => e = .returned (.bool (f x)) ∧ Below w1.heap.size w1 w2) :
    Calls Tryz.prog 150 #[.slice a l.length cap, .int .i64 most, .func (.func 151) #[] #[]] w fun e w' => e = .returned (.bool (few l most f)) ∧ Below w.heap.size w w' := by
  have HK := hid hK
  have HL := hid hl
  have hlen := hl.1
  clear hK hl
  by_cases h : (l.length : Int) ≤ most
  · have HF := hid (show few l most f = l.all f by simp [few, h])
    go_enter Tryz.func150, Tryz.ntmps150
    go_wp2_with (go_at_call 171; refine (allPeer f _ _ _ _ HL.out HK.out).mono ?_; rintro e w1 ⟨rfl, hb1⟩)
    go_ret
    exact ⟨ret_bool (by rw [HF.out]), bel⟩
  · have HF := hid (show few l most f = false by simp [few, h])
    go_enter Tryz.func150, Tryz.ntmps150
    go_wp2
    go_ret
    exact ⟨ret_bool (by rw [HF.out]), bel⟩
theorem anyPeer (f : DPeer → Bool) (k0 k1 : Value) (a : Option Addr) (cap : Nat) (l : List DPeer) (w : World) (hl : rdPeers w.heap.size w a l)
    (hK : ∀ (x : DPeer) (ea : Option Addr) (ec : Nat) (w1 : World), x ∈ l → Below w.heap.size w w1 → rdBlks w1.heap.size w1 ea x.exc → Calls Tryz.prog 156 #[.agg #[.int .i64 x.kind, .int .i64 x.need, .int .i64 x.ban, .int .i64 x.spaces, .int .i64 x.base, .int .i64 x.bits, .slice ea x.exc.length ec], k0, k1] w1 fun e w2 => e = .returned (.bool (f x)) ∧ Below w1.heap.size w1 w2) :
    Calls Tryz.prog 174 #[.slice a l.length cap, .func (.func 156) #[] #[k0, k1]] w fun e w' => e = .returned (.bool (l.any f)) ∧ Below w.heap.size w w' := by
  have HK := hid hK
  obtain ⟨hlen, hl⟩ := hl
  have HL := hid hl
  clear hl hK
  go_enter Tryz.func174, Tryz.ntmps174
  go_wp2
  go_loopw [9] (fun i wr => ∃ k : Nat, k ≤ l.length ∧ i = .int .i64 k ∧ (l.take k).any f = false ∧ Below w.heap.size w wr) (fun i _ => l.length - (intOf i).toNat)
  case atStart => exact ⟨0, Nat.zero_le _, rfl, rfl, Below.refl _ _⟩
  case round =>
    obtain ⟨k, hk, rfl, hall, hbw⟩ := hrel
    have HA := hid hall
    clear hall
    by_cases hlt : k < l.length
    · obtain ⟨hc, hf⟩ := bcell hbw
      obtain ⟨x, hxk⟩ : ∃ x, l[k]? = some x := ⟨l[k], by simp [hlt]⟩
      have HX := hid hxk
      clear hxk
      obtain ⟨b, off, rfl, hb, c0, c1, c2, c3, c4, c5, ea, ec, c6, hre⟩ := HL.out k x HX.out
      cases hx : f x
      · go_wp2_with (go_at_call 156; refine (HK.out x ea ec _ (List.mem_of_getElem? HX.out) bel (rdBlks.to hre bel)).mono ?_; rintro e w1 ⟨rfl, hb1⟩)
        exact ⟨⟨k + 1, by omega, by go_num, take_any HX.out HA.out hx, bel⟩, by simp [intOf]; omega⟩
      · go_wp2_with (go_at_call 156; refine (HK.out x ea ec _ (List.mem_of_getElem? HX.out) bel (rdBlks.to hre bel)).mono ?_; rintro e w1 ⟨rfl, hb1⟩)
        go_ret
        exact ⟨ret_bool (by rw [any_true HX.out hx]), bel⟩
    · go_wp2
      go_ret
      have := HA.out
      rw [List.take_of_length_le (by omega)] at this
      exact ⟨ret_bool (by rw [this]), hbw⟩
theorem eoaPeer (f : DPeer → Bool) (k0 k1 : Value) (a : Option Addr) (cap : Nat) (l : List DPeer) (w : World) (hl : rdPeers w.heap.size w a l)
    (hK : ∀ (x : DPeer) (ea : Option Addr) (ec : Nat) (w1 : World), x ∈ l → Below w.heap.size w w1 → rdBlks w1.heap.size w1 ea x.exc → Calls Tryz.prog 156 #[.agg #[.int .i64 x.kind, .int .i64 x.need, .int .i64 x.ban, .int .i64 x.spaces, .int .i64 x.base, .int .i64 x.bits, .slice ea x.exc.length ec], k0, k1] w1 fun e w2 => e = .returned (.bool (f x)) ∧ Below w1.heap.size w1 w2) :
    Calls Tryz.prog 155 #[.slice a l.length cap, .func (.func 156) #[] #[k0, k1]] w fun e w' => e = .returned (.bool (eoa l f)) ∧ Below w.heap.size w w' := by
  have HK := hid hK
  have HL := hid hl
  have hlen := hl.1
  clear hK hl
  by_cases h : l.length = 0
  · have HF := hid (show eoa l f = true by simp [eoa, h])
    have h2 : ((l.length : Int) == 0) = true := by simp [h]
    go_enter Tryz.func155, Tryz.ntmps155
    go_wp2
    go_ret
    exact ⟨ret_bool (by rw [HF.out]), bel⟩
  · have HF := hid (show eoa l f = l.any f by simp [eoa, h])
    have h2 : ((l.length : Int) == 0) = false := by simp [h]
    go_enter Tryz.func155, Tryz.ntmps155
    go_wp2_with (go_at_call 174; refine (anyPeer f _ _ _ _ _ _ HL.out HK.out).mono ?_; rintro e w1 ⟨rfl, hb1⟩)
    go_ret
    exact ⟨ret_bool (by rw [HF.out]), bel⟩
end Go.Proofs.YtmkjlhplgcifiaaGreat
