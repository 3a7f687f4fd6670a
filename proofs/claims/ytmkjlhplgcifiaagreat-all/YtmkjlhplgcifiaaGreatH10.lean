/-
  What is left of a block without some others, as a list of blocks: which addresses they have, and how many they are.
-/
import Derived.Test.YtmkjlhplgcifiaaGreatH02
import Derived.Test.YtmkjlhplgcifiaaGreatH04
import Derived.Test.YtmkjlhplgcifiaaGreatH09
import Derived.Deep.RegionHeld3
import Derived.Deep.AppendLies
namespace Go.Proofs.YtmkjlhplgcifiaaGreat
set_option linter.unusedVariables false
set_option linter.unusedSimpArgs false
def inn (inner outer : DBlk) : Bool := decide (outer.bits ≤ inner.bits) && blkHas inner.base outer
def lowB (b : DBlk) : DBlk := ⟨b.base, b.bits + 1⟩
def highB (b : DBlk) : DBlk := ⟨b.base + pw (b.bits + 1), b.bits + 1⟩
def wout : Nat → DBlk → List DBlk → List DBlk
  | 0, _, _ => []
  | f + 1, b, ex => if ex.any (inn b) then [] else if ex.any (fun e => inn e b) then wout f (lowB b) ex ++ wout f (highB b) ex else [b]
theorem pw_split {b : DBlk} (h : blkOk b = true) (hb : b.bits < 32) : pw b.bits = 2 * pw (b.bits + 1) := pw_succ b.bits (blkOk_true.1 h).1 hb
theorem emod_of_two {a p : Int} (h : a % (2 * p) = 0) : a % p = 0 := by
  have := Int.emod_emod_of_dvd a (Int.dvd_mul_left 2 p)
  rw [h] at this; simpa using this.symm
theorem top_mul (k : Int) (h : 0 ≤ k) (h1 : k ≤ 32) : ∃ m, m * pw k = 4294967296 := by
  refine ⟨2 ^ k.toNat, ?_⟩
  unfold pw
  rw [← Int.pow_add]
  rw [show k.toNat + (32 - k).toNat = 32 by omega]
  decide
theorem low_ok {b : DBlk} (h : blkOk b = true) (hb : b.bits < 32) : blkOk (lowB b) = true := by
  have h2 := pw_split h hb
  obtain ⟨h0, h1, h3, h4, h5⟩ := blkOk_true.1 h
  refine blkOk_true.2 ⟨by show 0 ≤ b.bits + 1; omega, by show b.bits + 1 ≤ 32; omega, h3, h4, ?_⟩
  show b.base % pw (b.bits + 1) = 0
  rw [h2] at h5; exact emod_of_two h5
theorem base_room {b : DBlk} (h : blkOk b = true) : b.base + pw b.bits ≤ 4294967296 := by
  obtain ⟨h0, h1, h3, h4, h5⟩ := blkOk_true.1 h
  obtain ⟨m, hm⟩ := top_mul b.bits h0 h1
  have hp := pw_pos b.bits
  have e : b.base / pw b.bits * pw b.bits = b.base := by have := Int.ediv_mul_add_emod b.base (pw b.bits); omega
  have hlt : b.base / pw b.bits < m := by
    refine Int.lt_of_mul_lt_mul_right (a := pw b.bits) ?_ (Int.le_of_lt hp)
    omega
  have hle : (b.base / pw b.bits + 1) * pw b.bits ≤ m * pw b.bits := Int.mul_le_mul_of_nonneg_right (by omega) (Int.le_of_lt hp)
  rw [Int.add_mul] at hle
  omega
theorem high_ok {b : DBlk} (h : blkOk b = true) (hb : b.bits < 32) : blkOk (highB b) = true := by
  have h2 := pw_split h hb
  have hr := base_room h
  obtain ⟨h0, h1, h3, h4, h5⟩ := blkOk_true.1 h
  have hp := pw_pos (b.bits + 1)
  refine blkOk_true.2 ⟨by show 0 ≤ b.bits + 1; omega, by show b.bits + 1 ≤ 32; omega, by show 0 ≤ b.base + pw (b.bits + 1); omega, by show b.base + pw (b.bits + 1) ≤ 4294967295; omega, ?_⟩
  show (b.base + pw (b.bits + 1)) % pw (b.bits + 1) = 0
  rw [h2] at h5
  rw [Int.add_emod_right]; exact emod_of_two h5
theorem has_iff {b : DBlk} (h : blkOk b = true) (ip : Int) : blkHas ip b = true ↔ b.base ≤ ip ∧ ip < b.base + pw b.bits := by
  obtain ⟨h0, h1, h3, h4, h5⟩ := blkOk_true.1 h
  have hp := pw_pos b.bits
  have e : b.base / pw b.bits * pw b.bits = b.base := by have := Int.ediv_mul_add_emod b.base (pw b.bits); omega
  unfold blkHas
  rw [decide_eq_true_eq]
  constructor
  · intro hd
    have h6 := Int.ediv_mul_add_emod ip (pw b.bits)
    have h7 := Int.emod_nonneg ip (show pw b.bits ≠ 0 by omega)
    have h8 := Int.emod_lt_of_pos ip hp
    rw [hd, e] at h6
    omega
  · rintro ⟨h6, h7⟩
    have h8 : ip = b.base + (ip - b.base) := by omega
    rw [h8, ← e, Int.add_comm, Int.add_mul_ediv_right _ _ (by omega), Int.ediv_eq_zero_of_lt (by omega) (by omega), Int.zero_add, e]
theorem has_split {b : DBlk} (h : blkOk b = true) (hb : b.bits < 32) (ip : Int) : blkHas ip b = (blkHas ip (lowB b) || blkHas ip (highB b)) := by
  have h2 := pw_split h hb
  have hp := pw_pos (b.bits + 1)
  rw [Bool.eq_iff_iff, Bool.or_eq_true, has_iff h, has_iff (low_ok h hb), has_iff (high_ok h hb)]
  show _ ↔ (b.base ≤ ip ∧ ip < b.base + pw (b.bits + 1)) ∨ (b.base + pw (b.bits + 1) ≤ ip ∧ ip < b.base + pw (b.bits + 1) + pw (b.bits + 1))
  omega
theorem pw_mono {j k : Int} (hj : 0 ≤ j) (h : j ≤ k) (hk : k ≤ 32) : ∃ m, 1 ≤ m ∧ pw j = m * pw k := by
  refine ⟨2 ^ (k - j).toNat, by have : (0 : Int) < 2 ^ (k - j).toNat := Int.pow_pos (by omega); omega, ?_⟩
  unfold pw
  rw [← Int.pow_add]
  rw [show (k - j).toNat + (32 - k).toNat = (32 - j).toNat by omega]
theorem inn_has {a b : DBlk} (ha : blkOk a = true) (hb : blkOk b = true) (h : inn a b = true) (ip : Int) (hip : blkHas ip a = true) : blkHas ip b = true := by
  unfold inn at h
  rw [Bool.and_eq_true, decide_eq_true_eq, has_iff hb] at h
  obtain ⟨hbit, h1, h2⟩ := h
  obtain ⟨a0, a1, a3, a4, a5⟩ := blkOk_true.1 ha
  obtain ⟨b0, b1, b3, b4, b5⟩ := blkOk_true.1 hb
  rw [has_iff ha] at hip
  rw [has_iff hb]
  obtain ⟨m, hm, he⟩ := pw_mono b0 hbit a1
  have hp := pw_pos a.bits
  refine ⟨by omega, ?_⟩
  -- both ends are multiples of the smaller block's size
  have ea : a.base / pw a.bits * pw a.bits = a.base := by have := Int.ediv_mul_add_emod a.base (pw a.bits); omega
  have eb : b.base / pw b.bits * pw b.bits = b.base := by have := Int.ediv_mul_add_emod b.base (pw b.bits); omega
  have eb2 : (b.base / pw b.bits * m + m) * pw a.bits = b.base + pw b.bits := by
    rw [Int.add_mul, Int.mul_assoc, ← he, eb]
  have hlt : a.base / pw a.bits < b.base / pw b.bits * m + m := by
    refine Int.lt_of_mul_lt_mul_right (a := pw a.bits) ?_ (Int.le_of_lt hp)
    rw [ea, eb2]; omega
  have hle : (a.base / pw a.bits + 1) * pw a.bits ≤ (b.base / pw b.bits * m + m) * pw a.bits := Int.mul_le_mul_of_nonneg_right (by omega) (Int.le_of_lt hp)
  rw [Int.add_mul, ea, eb2] at hle
  omega
theorem share_inn {a b : DBlk} (ha : blkOk a = true) (hb : blkOk b = true) {ip : Int} (h1 : blkHas ip a = true) (h2 : blkHas ip b = true) : inn a b = true ∨ inn b a = true := by
  have key : ∀ {a b : DBlk}, blkOk a = true → blkOk b = true → blkHas ip a = true → blkHas ip b = true → b.bits ≤ a.bits → inn a b = true := by
    intro a b ha hb h1 h2 hbit
    obtain ⟨a0, a1, a3, a4, a5⟩ := blkOk_true.1 ha
    obtain ⟨b0, b1, b3, b4, b5⟩ := blkOk_true.1 hb
    unfold inn
    rw [Bool.and_eq_true, decide_eq_true_eq, has_iff hb]
    rw [has_iff ha] at h1
    rw [has_iff hb] at h2
    obtain ⟨m, hm, he⟩ := pw_mono b0 hbit a1
    have hp := pw_pos a.bits
    have ea : a.base / pw a.bits * pw a.bits = a.base := by have := Int.ediv_mul_add_emod a.base (pw a.bits); omega
    have eb : b.base / pw b.bits * m * pw a.bits = b.base := by rw [Int.mul_assoc, ← he]; have := Int.ediv_mul_add_emod b.base (pw b.bits); omega
    refine ⟨hbit, ?_, by omega⟩
    have hlt : b.base / pw b.bits * m < a.base / pw a.bits + 1 := by
      refine Int.lt_of_mul_lt_mul_right (a := pw a.bits) ?_ (Int.le_of_lt hp)
      rw [Int.add_mul, ea, eb]; omega
    have hle : (b.base / pw b.bits * m) * pw a.bits ≤ (a.base / pw a.bits) * pw a.bits := Int.mul_le_mul_of_nonneg_right (by omega) (Int.le_of_lt hp)
    omega
  rcases Int.le_total b.bits a.bits with h | h
  · exact .inl (key ha hb h1 h2 h)
  · exact .inr (key hb ha h2 h1 h)
theorem inn_full {a b : DBlk} (ha : blkOk a = true) (hb : blkOk b = true) (h : inn a b = true) (hbits : b.bits = 32) : inn b a = true := by
  unfold inn at h ⊢
  rw [Bool.and_eq_true, decide_eq_true_eq, has_iff hb] at h
  obtain ⟨a0, a1, _⟩ := blkOk_true.1 ha
  have e : a.bits = 32 := by omega
  have hp : pw b.bits = 1 := by rw [hbits]; rfl
  have hpa : pw a.bits = 1 := by rw [e]; rfl
  rw [Bool.and_eq_true, decide_eq_true_eq, has_iff ha]
  omega
theorem wout_ok : ∀ (f : Nat) (b : DBlk) (ex : List DBlk), blkOk b = true → ex.all blkOk = true → ∀ x ∈ wout f b ex, blkOk x = true
  | 0, _, _, _, _ => by intro x hx; simp [wout] at hx
  | f + 1, b, ex, hb, he => by
    intro x hx
    rw [wout] at hx
    by_cases h1 : ex.any (inn b) = true
    · rw [if_pos h1] at hx; simp at hx
    · rw [if_neg h1] at hx
      by_cases h2 : (ex.any fun e => inn e b) = true
      · rw [if_pos h2] at hx
        have hlt : b.bits < 32 := by
          obtain ⟨_, hb32, _⟩ := blkOk_true.1 hb
          obtain ⟨e, hem, hei⟩ := List.any_eq_true.1 h2
          rcases Int.lt_or_le b.bits 32 with h | h
          · exact h
          · exact absurd (List.any_eq_true.2 ⟨e, hem, inn_full (List.all_eq_true.1 he e hem) hb hei (by omega)⟩) h1
        rcases List.mem_append.1 hx with h | h
        · exact wout_ok f (lowB b) ex (low_ok hb hlt) he x h
        · exact wout_ok f (highB b) ex (high_ok hb hlt) he x h
      · rw [if_neg h2] at hx; simp at hx; subst hx; exact hb
theorem wout_has : ∀ (f : Nat) (b : DBlk) (ex : List DBlk) (ip : Int), blkOk b = true → ex.all blkOk = true → 33 - b.bits ≤ f → (wout f b ex).any (blkHas ip) = (blkHas ip b && !(ex.any (blkHas ip)))
  | 0, b, ex, ip, hb, _, hf => by obtain ⟨_, h, _⟩ := blkOk_true.1 hb; omega
  | f + 1, b, ex, ip, hb, he, hf => by
    rw [wout]
    by_cases h1 : ex.any (inn b) = true
    · rw [if_pos h1]
      obtain ⟨e, hem, hei⟩ := List.any_eq_true.1 h1
      cases hh : blkHas ip b
      · rfl
      · rw [List.any_eq_true.2 ⟨e, hem, inn_has hb (List.all_eq_true.1 he e hem) hei ip hh⟩]; rfl
    · rw [if_neg h1]
      by_cases h2 : (ex.any fun e => inn e b) = true
      · rw [if_pos h2]
        have hlt : b.bits < 32 := by
          obtain ⟨_, hb32, _⟩ := blkOk_true.1 hb
          obtain ⟨e, hem, hei⟩ := List.any_eq_true.1 h2
          rcases Int.lt_or_le b.bits 32 with h | h
          · exact h
          · exact absurd (List.any_eq_true.2 ⟨e, hem, inn_full (List.all_eq_true.1 he e hem) hb hei (by omega)⟩) h1
        rw [List.any_append, wout_has f (lowB b) ex ip (low_ok hb hlt) he (by show 33 - (b.bits + 1) ≤ _; omega), wout_has f (highB b) ex ip (high_ok hb hlt) he (by show 33 - (b.bits + 1) ≤ _; omega), has_split hb hlt ip, Bool.and_or_distrib_right]
      · rw [if_neg h2]
        cases hh : blkHas ip b
        · simp [hh]
        · have : ex.any (blkHas ip) = false := by
            rw [Bool.eq_false_iff]
            intro h3
            obtain ⟨e, hem, hei⟩ := List.any_eq_true.1 h3
            rcases share_inn hb (List.all_eq_true.1 he e hem) hh hei with h | h
            · exact h1 (List.any_eq_true.2 ⟨e, hem, h⟩)
            · exact h2 (List.any_eq_true.2 ⟨e, hem, h⟩)
          simp [hh, this]
def dep (b e : DBlk) : Nat := if inn e b then (e.bits - b.bits).toNat else 0
theorem dep_split {b e : DBlk} (hb : blkOk b = true) (he : blkOk e = true) (hlt : b.bits < 32) : dep (lowB b) e + dep (highB b) e + (if inn e b && !inn b e then 1 else 0) ≤ dep b e := by
  have h2 := pw_split hb hlt
  have hp := pw_pos (b.bits + 1)
  unfold dep
  have iff1 : inn e (lowB b) = true ↔ b.bits + 1 ≤ e.bits ∧ b.base ≤ e.base ∧ e.base < b.base + pw (b.bits + 1) := by
    unfold inn; rw [Bool.and_eq_true, decide_eq_true_eq, has_iff (low_ok hb hlt)]; rfl
  have iff2 : inn e (highB b) = true ↔ b.bits + 1 ≤ e.bits ∧ b.base + pw (b.bits + 1) ≤ e.base ∧ e.base < b.base + pw (b.bits + 1) + pw (b.bits + 1) := by
    unfold inn; rw [Bool.and_eq_true, decide_eq_true_eq, has_iff (high_ok hb hlt)]; rfl
  have iff0 : inn e b = true ↔ b.bits ≤ e.bits ∧ b.base ≤ e.base ∧ e.base < b.base + pw b.bits := by
    unfold inn; rw [Bool.and_eq_true, decide_eq_true_eq, has_iff hb]
  have l1 : (lowB b).bits = b.bits + 1 := rfl
  have l2 : (highB b).bits = b.bits + 1 := rfl
  rw [l1, l2]
  by_cases h0 : inn e b = true
  · rw [if_pos h0]
    by_cases hs : inn b e = true
    · simp only [h0, hs, Bool.not_true, Bool.and_false, Bool.false_eq_true, if_false]
      have : e.bits ≤ b.bits := by unfold inn at hs; rw [Bool.and_eq_true, decide_eq_true_eq] at hs; exact hs.1
      have n1 : ¬ inn e (lowB b) = true := fun h => by have := iff1.1 h; omega
      have n2 : ¬ inn e (highB b) = true := fun h => by have := iff2.1 h; omega
      rw [if_neg n1, if_neg n2]; omega
    · have hs' : inn b e = false := by simpa using hs
      simp only [h0, hs', Bool.not_false, Bool.and_true, if_true]
      have hk := iff0.1 h0
      have hne : b.bits < e.bits := by
        rcases Int.lt_or_le b.bits e.bits with h | h
        · exact h
        · exfalso
          have eb : e.bits = b.bits := by omega
          obtain ⟨e0, e1, e3, e4, e5⟩ := blkOk_true.1 he
          apply hs
          rcases share_inn (ip := e.base) he hb ((has_iff he _).2 ⟨Int.le_refl _, by have := pw_pos e.bits; omega⟩) ((has_iff hb _).2 ⟨hk.2.1, hk.2.2⟩) with h' | h'
          · have ha : blkHas e.base b = true := (has_iff hb _).2 ⟨hk.2.1, hk.2.2⟩
            unfold inn
            rw [Bool.and_eq_true, decide_eq_true_eq]
            refine ⟨by omega, ?_⟩
            unfold blkHas at ha ⊢
            rw [decide_eq_true_eq] at ha ⊢
            rw [eb]; exact ha.symm
          · exact h'
      by_cases c : e.base < b.base + pw (b.bits + 1)
      · have n2 : ¬ inn e (highB b) = true := fun h => by have := iff2.1 h; omega
        rw [if_neg n2, if_pos (iff1.2 ⟨by omega, hk.2.1, c⟩)]; omega
      · have n1 : ¬ inn e (lowB b) = true := fun h => by have := iff1.1 h; omega
        rw [if_neg n1, if_pos (iff2.2 ⟨by omega, by omega, by omega⟩)]; omega
  · rw [if_neg h0]
    have n1 : ¬ inn e (lowB b) = true := fun h => h0 (iff0.2 (by have := iff1.1 h; omega))
    have n2 : ¬ inn e (highB b) = true := fun h => h0 (iff0.2 (by have := iff2.1 h; omega))
    have h0' : inn e b = false := by simpa using h0
    rw [if_neg n1, if_neg n2]; simp [h0']
def deps (b : DBlk) : List DBlk → Nat
  | [] => 0
  | e :: l => dep b e + deps b l
theorem deps_split {b : DBlk} (hb : blkOk b = true) (hlt : b.bits < 32) : ∀ l : List DBlk, l.all blkOk = true → l.any (inn b) = false → deps (lowB b) l + deps (highB b) l + (if (l.any fun e => inn e b) then 1 else 0) ≤ deps b l
  | [], _, _ => by simp [deps]
  | e :: l, he, hn => by
    rw [List.all_cons, Bool.and_eq_true] at he
    rw [List.any_cons, Bool.or_eq_false_iff] at hn
    have h1 := dep_split hb he.1 hlt
    have h2 := deps_split hb hlt l he.2 hn.2
    rw [hn.1] at h1
    simp only [Bool.not_false, Bool.and_true] at h1
    simp only [deps]
    by_cases hc : inn e b = true
    · rw [if_pos hc] at h1
      rw [if_pos (by simp [hc])]
      split at h2 <;> omega
    · rw [if_neg hc] at h1
      by_cases hd : (l.any fun e => inn e b) = true
      · rw [if_pos hd] at h2
        rw [if_pos (by simp [hd])]; omega
      · rw [if_neg hd] at h2
        rw [if_neg (by rw [List.any_cons, Bool.or_eq_true, not_or]; exact ⟨hc, hd⟩)]; omega
theorem wout_len : ∀ (f : Nat) (b : DBlk) (ex : List DBlk), blkOk b = true → ex.all blkOk = true → (wout f b ex).length ≤ 1 + deps b ex
  | 0, _, _, _, _ => by simp [wout]
  | f + 1, b, ex, hb, he => by
    rw [wout]
    by_cases h1 : ex.any (inn b) = true
    · rw [if_pos h1]; simp
    · rw [if_neg h1]
      by_cases h2 : (ex.any fun e => inn e b) = true
      · rw [if_pos h2]
        have hlt : b.bits < 32 := by
          obtain ⟨_, hb32, _⟩ := blkOk_true.1 hb
          obtain ⟨e, hem, hei⟩ := List.any_eq_true.1 h2
          rcases Int.lt_or_le b.bits 32 with h | h
          · exact h
          · exact absurd (List.any_eq_true.2 ⟨e, hem, inn_full (List.all_eq_true.1 he e hem) hb hei (by omega)⟩) h1
        have a1 := wout_len f (lowB b) ex (low_ok hb hlt) he
        have a2 := wout_len f (highB b) ex (high_ok hb hlt) he
        have a3 := deps_split hb hlt ex he (by simpa using h1)
        rw [h2, if_pos rfl] at a3
        rw [List.length_append]; omega
      · rw [if_neg h2]; simp
theorem deps_le {b : DBlk} (hb : blkOk b = true) : ∀ l : List DBlk, l.all blkOk = true → deps b l ≤ 32 * l.length
  | [], _ => by simp [deps]
  | e :: l, he => by
    rw [List.all_cons, Bool.and_eq_true] at he
    have := deps_le hb l he.2
    have h1 := (blkOk_true.1 hb).1
    have h2 := (blkOk_true.1 he.1).2.1
    simp only [deps, List.length_cons, dep]
    split <;> omega
theorem wout_le (f : Nat) {b : DBlk} {ex : List DBlk} (hb : blkOk b = true) (he : ex.all blkOk = true) (hl : ex.length ≤ 2) : (wout f b ex).length ≤ 65 := by
  have h1 := wout_len f b ex hb he
  have h2 := deps_le hb ex he
  omega
end Go.Proofs.YtmkjlhplgcifiaaGreat
namespace Go.Proofs.YtmkjlhplgcifiaaGreat
open Go.ChangeShapes Go.WideShapes Go.ChangeAt Go.RowKit
set_option linter.unusedVariables false
set_option linter.unusedSimpArgs false
attribute [local simp] World.cell?_grow
attribute [local go_sem] World.cell?_grow eqg_blk std_blk eqg_pod std_pod eqg_sel std_sel eqg_prt std_prt
attribute [local go_sem ↓] eql_blk eql_sel neq_sel eql_prt eql_pod met_in1 met_in2 met_re1 met_re2
theorem wraps_32 (n : Int) (h₀ : 0 ≤ n) (h₁ : n < 2 ^ 32) : IntKind.i64.wrap n = n := by rw [IntKind.wrap_i64]; omega
theorem or_i64 (q m : Nat) (h : 2 ^ (m + 1) * q < 2 ^ 32) (hm : m < 32) : bits .or .i64 ((2 ^ (m + 1) * q : Nat) : Int) ((2 ^ m : Nat) : Int) = ((2 ^ (m + 1) * q + 2 ^ m : Nat) : Int) := by
  have h1 : 2 ^ m < 2 ^ (m + 1) := by rw [Nat.pow_succ]; have := Nat.pow_pos (n := m) (show 0 < 2 by omega); omega
  have h2 : 2 ^ (m + 1) * q ||| 2 ^ m = 2 ^ (m + 1) * q + 2 ^ m := (Nat.two_pow_add_eq_or_of_lt h1 q).symm
  have h3 : 2 ^ m < 2 ^ 32 := Nat.pow_lt_pow_right (by omega) hm
  rw [(bits_nat .i64 32 (by decide) wraps_32 _ _ h h3).2, h2]
theorem or_pw {b : DBlk} (hb : blkOk b = true) (hlt : b.bits < 32) (x : Int) (hx : x = pw (b.bits + 1)) : bits .or .i64 b.base x = b.base + pw (b.bits + 1) := by
  obtain ⟨h0, h1, h3, h4, h5⟩ := blkOk_true.1 hb
  obtain ⟨m, hm⟩ : ∃ m : Nat, (32 - (b.bits + 1)) = (m : Int) := Int.eq_ofNat_of_zero_le (by omega)
  have hm32 : m < 32 := by omega
  have hp1 : pw (b.bits + 1) = ((2 ^ m : Nat) : Int) := by unfold pw; rw [hm]; simp
  have hp : pw b.bits = ((2 ^ (m + 1) : Nat) : Int) := by rw [pw_split hb hlt, hp1, Nat.pow_succ]; simp; omega
  obtain ⟨q, hq⟩ : ∃ q : Nat, b.base / pw b.bits = (q : Int) := Int.eq_ofNat_of_zero_le (Int.ediv_nonneg h3 (Int.le_of_lt (pw_pos _)))
  have e : b.base = ((2 ^ (m + 1) * q : Nat) : Int) := by
    have := Int.ediv_mul_add_emod b.base (pw b.bits)
    rw [h5, hq, hp] at this
    rw [← this]; simp [Int.mul_comm]
  rw [hx, hp1, e]
  have h7 : 2 ^ (m + 1) * q < 2 ^ 32 := by
    have : ((2 ^ (m + 1) * q : Nat) : Int) ≤ 4294967295 := by rw [← e]; exact h4
    omega
  rw [or_i64 q m h7 hm32]; simp
theorem wrap_pw (k : Int) (h : 0 ≤ k) : IntKind.i64.wrap (2 ^ (32 - k).toNat) = pw k := by
  have := pw_le k h
  show IntKind.i64.wrap (pw k) = pw k
  rw [IntKind.wrap_i64]; omega
theorem blkWithin_any (a b : DBlk) (w : World) (hb : blkOk b = true) (h0 : 0 ≤ a.base) (h1 : a.base ≤ 4294967295) :
    Calls Tryz.prog 237 #[.agg #[.int .i64 a.base, .int .i64 a.bits], .agg #[.int .i64 b.base, .int .i64 b.bits]] w fun e w' => e = .returned (.bool (inn a b)) ∧ Below w.heap.size w w' := by
  have HB := hid hb
  clear hb
  cases hq : decide (b.bits ≤ a.bits)
  · have HF := hid (show inn a b = false by unfold inn; rw [hq]; rfl)
    have hq' := of_decide_eq_false hq
    go_enter Tryz.func237, Tryz.ntmps237
    go_wp2
    go_ret
    exact ⟨ret_bool (by rw [HF.out]), bel⟩
  · have HF := hid (show inn a b = blkHas a.base b by unfold inn; rw [hq]; rfl)
    have hq' := of_decide_eq_true hq
    go_enter Tryz.func237, Tryz.ntmps237
    go_wp2_with (go_at_call 104; refine (blkHas_any b _ _ HB.out h0 h1).mono ?_; rintro e w1 ⟨rfl, hb1⟩; obtain ⟨hc1, hf1⟩ := bcell hb1; have hz1 := hb_lt hb1)
    go_ret
    exact ⟨ret_bool (by rw [HF.out]), bel⟩
theorem woClo1 (b e : DBlk) (pb : Nat) (w : World) (he : blkOk e = true) (h0 : 0 ≤ b.base) (h1 : b.base ≤ 4294967295) (c0 : w.cell? ⟨pb, 0, none⟩ = some (.int .i64 b.base)) (c1 : w.cell? ⟨pb, 1, none⟩ = some (.int .i64 b.bits)) :
    Calls Tryz.prog 236 #[.agg #[.int .i64 e.base, .int .i64 e.bits], .pointer (some ⟨pb, 0, none⟩)] w fun e' w' => e' = .returned (.bool (inn b e)) ∧ Below w.heap.size w w' := by
  have HE := hid he
  have l0 := cell_lt c0
  clear he
  go_enter Tryz.func236, Tryz.ntmps236
  go_wp2_with (go_at_call 237; refine (blkWithin_any b e _ HE.out h0 h1).mono ?_; rintro e w1 ⟨rfl, hb1⟩; obtain ⟨hc1, hf1⟩ := bcell hb1; have hz1 := hb_lt hb1)
  go_ret
  exact ⟨rfl, bel⟩
theorem woClo2 (b e : DBlk) (pb : Nat) (w : World) (hb : blkOk b = true) (h0 : 0 ≤ e.base) (h1 : e.base ≤ 4294967295) (c0 : w.cell? ⟨pb, 0, none⟩ = some (.int .i64 b.base)) (c1 : w.cell? ⟨pb, 1, none⟩ = some (.int .i64 b.bits)) :
    Calls Tryz.prog 238 #[.agg #[.int .i64 e.base, .int .i64 e.bits], .pointer (some ⟨pb, 0, none⟩)] w fun e' w' => e' = .returned (.bool (inn e b)) ∧ Below w.heap.size w w' := by
  have HE := hid hb
  have l0 := cell_lt c0
  clear hb
  go_enter Tryz.func238, Tryz.ntmps238
  go_wp2_with (go_at_call 237; refine (blkWithin_any e b _ HE.out h0 h1).mono ?_; rintro e w1 ⟨rfl, hb1⟩; obtain ⟨hc1, hf1⟩ := bcell hb1; have hz1 := hb_lt hb1)
  go_ret
  exact ⟨rfl, bel⟩
theorem halves_any (b : DBlk) (w : World) (hb : blkOk b = true) (hlt : b.bits < 32) :
    Calls Tryz.prog 239 #[.agg #[.int .i64 b.base, .int .i64 b.bits]] w fun e w' => e = .returned (.tuple #[.agg #[.int .i64 b.base, .int .i64 (b.bits + 1)], .agg #[.int .i64 (b.base + pw (b.bits + 1)), .int .i64 (b.bits + 1)]]) ∧ Below w.heap.size w w' := by
  obtain ⟨hb0, hb1, hb3, hb4, hb5⟩ := blkOk_true.1 hb
  have HB := hid hb
  clear hb hb5
  have k1 : (0 : Int) ≤ 32 - (b.bits + 1) := by omega
  have k2 : wrap64 (b.bits + 1) = b.bits + 1 := IntWalk.wrap64_in _ (by omega)
  have k3 : wrap64 (32 - (b.bits + 1)) = 32 - (b.bits + 1) := IntWalk.wrap64_in _ (by omega)
  have k4 : IntKind.i64.wrap (32 - (b.bits + 1)) = 32 - (b.bits + 1) := by rw [IntKind.wrap_i64]; omega
  have HO := hid (or_pw HB.out hlt _ (wrap_pw (b.bits + 1) (by omega)))
  have n0 := World.new_ne
  go_enter Tryz.func239, Tryz.ntmps239
  go_wp2
  go_region_held3 (fun w' => w'.cell? ⟨w.heap.size, 0, none⟩ = some (.int .i64 b.base)) (go_keep) (fail)
  rw [HO.out]
  go_wp2
  exact bodyPost_ret (v := .tuple #[.agg #[.int .i64 b.base, .int .i64 (b.bits + 1)], .agg #[.int .i64 (b.base + pw (b.bits + 1)), .int .i64 (b.bits + 1)]]) (by simp [results, Tryz.results239, go_sem]) rfl ⟨rfl, bel⟩
theorem anyBlkW1 (f : DBlk → Bool) (k0 : Value) (a : Option Addr) (cap : Nat) (l : List DBlk) (w : World) (hl : rdBlks w.heap.size w a l)
    (hK : ∀ (x : DBlk) (w1 : World), x ∈ l → Below w.heap.size w w1 → Calls Tryz.prog 236 #[.agg #[.int .i64 x.base, .int .i64 x.bits], k0] w1 fun e w2 => e = .returned (.bool (f x)) ∧ Below w1.heap.size w1 w2) :
    Calls Tryz.prog 235 #[.slice a l.length cap, .func (.func 236) #[] #[k0]] w fun e w' => e = .returned (.bool (l.any f)) ∧ Below w.heap.size w w' := by
  have HK := hid hK
  obtain ⟨hlen, hl⟩ := hl
  have HL := hid hl
  clear hl hK
  go_enter Tryz.func235, Tryz.ntmps235
  go_wp2
  go_loopw [9] (fun i wr => ∃ k : Nat, k ≤ l.length ∧ i = .int .i64 k ∧ (l.take k).any f = false ∧ Below w.heap.size w wr) (fun i _ => l.length - (intOf i).toNat)
  case atStart => exact ⟨0, Nat.zero_le _, rfl, rfl, Below.refl _ _⟩
  case round =>
    obtain ⟨k, hk, rfl, hall, hbw⟩ := hrel
    have HA := hid hall
    clear hall
    by_cases hlt : k < l.length
    · obtain ⟨hc, hf⟩ := bcell hbw
      obtain ⟨x, hxk⟩ : ∃ x, l[k]? = some x := ⟨l[k], by simp [hlt]⟩
      have HX := hid hxk
      clear hxk
      obtain ⟨b, off, rfl, hb, c0, c1⟩ := HL.out k x HX.out
      cases hx : f x
      · go_wp2_with (go_at_call 236; refine (HK.out x _ (List.mem_of_getElem? HX.out) bel).mono ?_; rintro e w1 ⟨rfl, hb1⟩)
        exact ⟨⟨k + 1, by omega, by go_num, take_any HX.out HA.out hx, bel⟩, by simp [intOf]; omega⟩
      · go_wp2_with (go_at_call 236; refine (HK.out x _ (List.mem_of_getElem? HX.out) bel).mono ?_; rintro e w1 ⟨rfl, hb1⟩)
        go_ret
        exact ⟨ret_bool (by rw [any_true HX.out hx]), bel⟩
    · go_wp2
      go_ret
      have := HA.out
      rw [List.take_of_length_le (by omega)] at this
      exact ⟨ret_bool (by rw [this]), hbw⟩
theorem anyBlkW2 (f : DBlk → Bool) (k0 : Value) (a : Option Addr) (cap : Nat) (l : List DBlk) (w : World) (hl : rdBlks w.heap.size w a l)
    (hK : ∀ (x : DBlk) (w1 : World), x ∈ l → Below w.heap.size w w1 → Calls Tryz.prog 238 #[.agg #[.int .i64 x.base, .int .i64 x.bits], k0] w1 fun e w2 => e = .returned (.bool (f x)) ∧ Below w1.heap.size w1 w2) :
    Calls Tryz.prog 235 #[.slice a l.length cap, .func (.func 238) #[] #[k0]] w fun e w' => e = .returned (.bool (l.any f)) ∧ Below w.heap.size w w' := by
  have HK := hid hK
  obtain ⟨hlen, hl⟩ := hl
  have HL := hid hl
  clear hl hK
  go_enter Tryz.func235, Tryz.ntmps235
  go_wp2
  go_loopw [9] (fun i wr => ∃ k : Nat, k ≤ l.length ∧ i = .int .i64 k ∧ (l.take k).any f = false ∧ Below w.heap.size w wr) (fun i _ => l.length - (intOf i).toNat)
  case atStart => exact ⟨0, Nat.zero_le _, rfl, rfl, Below.refl _ _⟩
  case round =>
    obtain ⟨k, hk, rfl, hall, hbw⟩ := hrel
    have HA := hid hall
    clear hall
    by_cases hlt : k < l.length
    · obtain ⟨hc, hf⟩ := bcell hbw
      obtain ⟨x, hxk⟩ : ∃ x, l[k]? = some x := ⟨l[k], by simp [hlt]⟩
      have HX := hid hxk
      clear hxk
      obtain ⟨b, off, rfl, hb, c0, c1⟩ := HL.out k x HX.out
      cases hx : f x
      · go_wp2_with (go_at_call 238; refine (HK.out x _ (List.mem_of_getElem? HX.out) bel).mono ?_; rintro e w1 ⟨rfl, hb1⟩)
        exact ⟨⟨k + 1, by omega, by go_num, take_any HX.out HA.out hx, bel⟩, by simp [intOf]; omega⟩
      · go_wp2_with (go_at_call 238; refine (HK.out x _ (List.mem_of_getElem? HX.out) bel).mono ?_; rintro e w1 ⟨rfl, hb1⟩)
        go_ret
        exact ⟨ret_bool (by rw [any_true HX.out hx]), bel⟩
    · go_wp2
      go_ret
      have := HA.out
      rw [List.take_of_length_le (by omega)] at this
      exact ⟨ret_bool (by rw [this]), hbw⟩
theorem info_blk : (Tryz.prog.info? 47).map (fun i => (i.zero, i.size, i.bytes)) = some (some (.agg #[.int .i64 0, .int .i64 0]), 2, 16) := by kernel_rfl
theorem own_le {w : World} {base base' : Nat} {e : TypeId} {size : Nat} {v : Value} {n : Nat} {xs : List Value} (h : w.ownsRow base' e size v n xs) (hb : base ≤ base') : w.ownsRow base e size v n xs := by
  obtain ⟨h1, h2⟩ := h
  refine ⟨h1, ?_⟩
  rcases h2 with h2 | ⟨g, cap, cur, a, b, c⟩
  · exact .inl h2
  · exact .inr ⟨g, cap, cur, a, by omega, c⟩
theorem encBlk_one (l : List DBlk) : ∀ u ∈ l.flatMap encBlk, u.oneCell' = true := by
  intro u hu
  obtain ⟨x, _, hx⟩ := List.mem_flatMap.1 hu
  simp [encBlk] at hx
  rcases hx with rfl | rfl <;> rfl
end Go.Proofs.YtmkjlhplgcifiaaGreat
