/-
  What is left of a block without some others, as a list of blocks: which addresses they have, and how many they are.
  Selectors, ports and packets: who is selected, what fits, which end is which.
  The generic loops of package list, at each element type.
  The generic loops of package list, at each element type.
-/
import Derived.Test.YtmkjlhplgcifiaaGreatQ04
import Derived.Test.YtmkjlhplgcifiaaGreatQ03
import Derived.Laws.BitsLemmas
namespace Go.Proofs.YtmkjlhplgcifiaaGreat
set_option linter.unusedVariables false
set_option linter.unusedSimpArgs false

/-- the smaller block lies in the greater one -/
def inn (inner outer : DBlk) : Bool := decide (outer.bits ≤ inner.bits) && blkHas inner.base outer
def lowB (b : DBlk) : DBlk := ⟨b.base, b.bits + 1⟩
def highB (b : DBlk) : DBlk := ⟨b.base + pw (b.bits + 1), b.bits + 1⟩
def wout : Nat → DBlk → List DBlk → List DBlk
  | 0, _, _ => []
  | f + 1, b, ex => if ex.any (inn b) then [] else if ex.any (fun e => inn e b) then wout f (lowB b) ex ++ wout f (highB b) ex else [b]

theorem pw_split {b : DBlk} (h : blkOk b = true) (hb : b.bits < 32) : pw b.bits = 2 * pw (b.bits + 1) := pw_succ b.bits (blkOk_true.1 h).1 hb
theorem emod_of_two {a p : Int} (h : a % (2 * p) = 0) : a % p = 0 := by
  have := Int.emod_emod_of_dvd a (Int.dvd_mul_left 2 p)
  rw [h] at this; simpa using this.symm
theorem top_mul (k : Int) (h : 0 ≤ k) (h1 : k ≤ 32) : ∃ m, m * pw k = 4294967296 := by
  refine ⟨2 ^ k.toNat, ?_⟩
  unfold pw
  rw [← Int.pow_add]
  rw [show k.toNat + (32 - k).toNat = 32 by omega]
  decide
theorem low_ok {b : DBlk} (h : blkOk b = true) (hb : b.bits < 32) : blkOk (lowB b) = true := by
  have h2 := pw_split h hb
  obtain ⟨h0, h1, h3, h4, h5⟩ := blkOk_true.1 h
  refine blkOk_true.2 ⟨by show 0 ≤ b.bits + 1; omega, by show b.bits + 1 ≤ 32; omega, h3, h4, ?_⟩
  show b.base % pw (b.bits + 1) = 0
  rw [h2] at h5; exact emod_of_two h5
theorem base_room {b : DBlk} (h : blkOk b = true) : b.base + pw b.bits ≤ 4294967296 := by
  obtain ⟨h0, h1, h3, h4, h5⟩ := blkOk_true.1 h
  obtain ⟨m, hm⟩ := top_mul b.bits h0 h1
  have hp := pw_pos b.bits
  have e : b.base / pw b.bits * pw b.bits = b.base := by have := Int.ediv_mul_add_emod b.base (pw b.bits); omega
  have hlt : b.base / pw b.bits < m := by
    refine Int.lt_of_mul_lt_mul_right (a := pw b.bits) ?_ (Int.le_of_lt hp)
    omega
  have hle : (b.base / pw b.bits + 1) * pw b.bits ≤ m * pw b.bits := Int.mul_le_mul_of_nonneg_right (by omega) (Int.le_of_lt hp)
  rw [Int.add_mul] at hle
  omega
theorem high_ok {b : DBlk} (h : blkOk b = true) (hb : b.bits < 32) : blkOk (highB b) = true := by
  have h2 := pw_split h hb
  have hr := base_room h
  obtain ⟨h0, h1, h3, h4, h5⟩ := blkOk_true.1 h
  have hp := pw_pos (b.bits + 1)
  refine blkOk_true.2 ⟨by show 0 ≤ b.bits + 1; omega, by show b.bits + 1 ≤ 32; omega, by show 0 ≤ b.base + pw (b.bits + 1); omega, by show b.base + pw (b.bits + 1) ≤ 4294967295; omega, ?_⟩
  show (b.base + pw (b.bits + 1)) % pw (b.bits + 1) = 0
  rw [h2] at h5
  rw [Int.add_emod_right]; exact emod_of_two h5

/-- an address lies in a right block just when it lies between its ends -/
theorem has_iff {b : DBlk} (h : blkOk b = true) (ip : Int) : blkHas ip b = true ↔ b.base ≤ ip ∧ ip < b.base + pw b.bits := by
  obtain ⟨h0, h1, h3, h4, h5⟩ := blkOk_true.1 h
  have hp := pw_pos b.bits
  have e : b.base / pw b.bits * pw b.bits = b.base := by have := Int.ediv_mul_add_emod b.base (pw b.bits); omega
  unfold blkHas
  rw [decide_eq_true_eq]
  constructor
  · intro hd
    have h6 := Int.ediv_mul_add_emod ip (pw b.bits)
    have h7 := Int.emod_nonneg ip (show pw b.bits ≠ 0 by omega)
    have h8 := Int.emod_lt_of_pos ip hp
    rw [hd, e] at h6
    omega
  · rintro ⟨h6, h7⟩
    have h8 : ip = b.base + (ip - b.base) := by omega
    rw [h8, ← e, Int.add_comm, Int.add_mul_ediv_right _ _ (by omega), Int.ediv_eq_zero_of_lt (by omega) (by omega), Int.zero_add, e]
theorem has_split {b : DBlk} (h : blkOk b = true) (hb : b.bits < 32) (ip : Int) : blkHas ip b = (blkHas ip (lowB b) || blkHas ip (highB b)) := by
  have h2 := pw_split h hb
  have hp := pw_pos (b.bits + 1)
  rw [Bool.eq_iff_iff, Bool.or_eq_true, has_iff h, has_iff (low_ok h hb), has_iff (high_ok h hb)]
  show _ ↔ (b.base ≤ ip ∧ ip < b.base + pw (b.bits + 1)) ∨ (b.base + pw (b.bits + 1) ≤ ip ∧ ip < b.base + pw (b.bits + 1) + pw (b.bits + 1))
  omega
theorem pw_mono {j k : Int} (hj : 0 ≤ j) (h : j ≤ k) (hk : k ≤ 32) : ∃ m, 1 ≤ m ∧ pw j = m * pw k := by
  refine ⟨2 ^ (k - j).toNat, by have : (0 : Int) < 2 ^ (k - j).toNat := Int.pow_pos (by omega); omega, ?_⟩
  unfold pw
  rw [← Int.pow_add]
  rw [show (k - j).toNat + (32 - k).toNat = (32 - j).toNat by omega]
/-- a block that lies in another one: all of its addresses do -/
theorem inn_has {a b : DBlk} (ha : blkOk a = true) (hb : blkOk b = true) (h : inn a b = true) (ip : Int) (hip : blkHas ip a = true) : blkHas ip b = true := by
  unfold inn at h
  rw [Bool.and_eq_true, decide_eq_true_eq, has_iff hb] at h
  obtain ⟨hbit, h1, h2⟩ := h
  obtain ⟨a0, a1, a3, a4, a5⟩ := blkOk_true.1 ha
  obtain ⟨b0, b1, b3, b4, b5⟩ := blkOk_true.1 hb
  rw [has_iff ha] at hip
  rw [has_iff hb]
  obtain ⟨m, hm, he⟩ := pw_mono b0 hbit a1
  have hp := pw_pos a.bits
  refine ⟨by omega, ?_⟩
  -- both ends are multiples of the smaller block's size
  have ea : a.base / pw a.bits * pw a.bits = a.base := by have := Int.ediv_mul_add_emod a.base (pw a.bits); omega
  have eb : b.base / pw b.bits * pw b.bits = b.base := by have := Int.ediv_mul_add_emod b.base (pw b.bits); omega
  have eb2 : (b.base / pw b.bits * m + m) * pw a.bits = b.base + pw b.bits := by
    rw [Int.add_mul, Int.mul_assoc, ← he, eb]
  have hlt : a.base / pw a.bits < b.base / pw b.bits * m + m := by
    refine Int.lt_of_mul_lt_mul_right (a := pw a.bits) ?_ (Int.le_of_lt hp)
    rw [ea, eb2]; omega
  have hle : (a.base / pw a.bits + 1) * pw a.bits ≤ (b.base / pw b.bits * m + m) * pw a.bits := Int.mul_le_mul_of_nonneg_right (by omega) (Int.le_of_lt hp)
  rw [Int.add_mul, ea, eb2] at hle
  omega
/-- two blocks that share an address: one lies in the other -/
theorem share_inn {a b : DBlk} (ha : blkOk a = true) (hb : blkOk b = true) {ip : Int} (h1 : blkHas ip a = true) (h2 : blkHas ip b = true) : inn a b = true ∨ inn b a = true := by
  have key : ∀ {a b : DBlk}, blkOk a = true → blkOk b = true → blkHas ip a = true → blkHas ip b = true → b.bits ≤ a.bits → inn a b = true := by
    intro a b ha hb h1 h2 hbit
    obtain ⟨a0, a1, a3, a4, a5⟩ := blkOk_true.1 ha
    obtain ⟨b0, b1, b3, b4, b5⟩ := blkOk_true.1 hb
    unfold inn
    rw [Bool.and_eq_true, decide_eq_true_eq, has_iff hb]
    rw [has_iff ha] at h1
    rw [has_iff hb] at h2
    obtain ⟨m, hm, he⟩ := pw_mono b0 hbit a1
    have hp := pw_pos a.bits
    have ea : a.base / pw a.bits * pw a.bits = a.base := by have := Int.ediv_mul_add_emod a.base (pw a.bits); omega
    have eb : b.base / pw b.bits * m * pw a.bits = b.base := by rw [Int.mul_assoc, ← he]; have := Int.ediv_mul_add_emod b.base (pw b.bits); omega
    refine ⟨hbit, ?_, by omega⟩
    have hlt : b.base / pw b.bits * m < a.base / pw a.bits + 1 := by
      refine Int.lt_of_mul_lt_mul_right (a := pw a.bits) ?_ (Int.le_of_lt hp)
      rw [Int.add_mul, ea, eb]; omega
    have hle : (b.base / pw b.bits * m) * pw a.bits ≤ (a.base / pw a.bits) * pw a.bits := Int.mul_le_mul_of_nonneg_right (by omega) (Int.le_of_lt hp)
    omega
  rcases Int.le_total b.bits a.bits with h | h
  · exact .inl (key ha hb h1 h2 h)
  · exact .inr (key hb ha h2 h1 h)
/-- a block of one address in which another one lies is that one -/
theorem inn_full {a b : DBlk} (ha : blkOk a = true) (hb : blkOk b = true) (h : inn a b = true) (hbits : b.bits = 32) : inn b a = true := by
  unfold inn at h ⊢
  rw [Bool.and_eq_true, decide_eq_true_eq, has_iff hb] at h
  obtain ⟨a0, a1, _⟩ := blkOk_true.1 ha
  have e : a.bits = 32 := by omega
  have hp : pw b.bits = 1 := by rw [hbits]; rfl
  have hpa : pw a.bits = 1 := by rw [e]; rfl
  rw [Bool.and_eq_true, decide_eq_true_eq, has_iff ha]
  omega

theorem wout_ok : ∀ (f : Nat) (b : DBlk) (ex : List DBlk), blkOk b = true → ex.all blkOk = true → ∀ x ∈ wout f b ex, blkOk x = true
  | 0, _, _, _, _ => by intro x hx; simp [wout] at hx
  | f + 1, b, ex, hb, he => by
    intro x hx
    rw [wout] at hx
    by_cases h1 : ex.any (inn b) = true
    · rw [if_pos h1] at hx; simp at hx
    · rw [if_neg h1] at hx
      by_cases h2 : (ex.any fun e => inn e b) = true
      · rw [if_pos h2] at hx
        have hlt : b.bits < 32 := by
          obtain ⟨_, hb32, _⟩ := blkOk_true.1 hb
          obtain ⟨e, hem, hei⟩ := List.any_eq_true.1 h2
          rcases Int.lt_or_le b.bits 32 with h | h
          · exact h
          · exact absurd (List.any_eq_true.2 ⟨e, hem, inn_full (List.all_eq_true.1 he e hem) hb hei (by omega)⟩) h1
        rcases List.mem_append.1 hx with h | h
        · exact wout_ok f (lowB b) ex (low_ok hb hlt) he x h
        · exact wout_ok f (highB b) ex (high_ok hb hlt) he x h
      · rw [if_neg h2] at hx; simp at hx; subst hx; exact hb

theorem wout_has : ∀ (f : Nat) (b : DBlk) (ex : List DBlk) (ip : Int), blkOk b = true → ex.all blkOk = true → 33 - b.bits ≤ f → (wout f b ex).any (blkHas ip) = (blkHas ip b && !(ex.any (blkHas ip)))
  | 0, b, ex, ip, hb, _, hf => by obtain ⟨_, h, _⟩ := blkOk_true.1 hb; omega
  | f + 1, b, ex, ip, hb, he, hf => by
    rw [wout]
    by_cases h1 : ex.any (inn b) = true
    · rw [if_pos h1]
      obtain ⟨e, hem, hei⟩ := List.any_eq_true.1 h1
      cases hh : blkHas ip b
      · rfl
      · rw [List.any_eq_true.2 ⟨e, hem, inn_has hb (List.all_eq_true.1 he e hem) hei ip hh⟩]; rfl
    · rw [if_neg h1]
      by_cases h2 : (ex.any fun e => inn e b) = true
      · rw [if_pos h2]
        have hlt : b.bits < 32 := by
          obtain ⟨_, hb32, _⟩ := blkOk_true.1 hb
          obtain ⟨e, hem, hei⟩ := List.any_eq_true.1 h2
          rcases Int.lt_or_le b.bits 32 with h | h
          · exact h
          · exact absurd (List.any_eq_true.2 ⟨e, hem, inn_full (List.all_eq_true.1 he e hem) hb hei (by omega)⟩) h1
        rw [List.any_append, wout_has f (lowB b) ex ip (low_ok hb hlt) he (by show 33 - (b.bits + 1) ≤ _; omega), wout_has f (highB b) ex ip (high_ok hb hlt) he (by show 33 - (b.bits + 1) ≤ _; omega), has_split hb hlt ip, Bool.and_or_distrib_right]
      · rw [if_neg h2]
        cases hh : blkHas ip b
        · simp [hh]
        · have : ex.any (blkHas ip) = false := by
            rw [Bool.eq_false_iff]
            intro h3
            obtain ⟨e, hem, hei⟩ := List.any_eq_true.1 h3
            rcases share_inn hb (List.all_eq_true.1 he e hem) hh hei with h | h
            · exact h1 (List.any_eq_true.2 ⟨e, hem, h⟩)
            · exact h2 (List.any_eq_true.2 ⟨e, hem, h⟩)
          simp [hh, this]

/-- how often an except that lies in a block halves it -/
def dep (b e : DBlk) : Nat := if inn e b then (e.bits - b.bits).toNat else 0
theorem dep_split {b e : DBlk} (hb : blkOk b = true) (he : blkOk e = true) (hlt : b.bits < 32) : dep (lowB b) e + dep (highB b) e + (if inn e b && !inn b e then 1 else 0) ≤ dep b e := by
  have h2 := pw_split hb hlt
  have hp := pw_pos (b.bits + 1)
  unfold dep
  have iff1 : inn e (lowB b) = true ↔ b.bits + 1 ≤ e.bits ∧ b.base ≤ e.base ∧ e.base < b.base + pw (b.bits + 1) := by
    unfold inn; rw [Bool.and_eq_true, decide_eq_true_eq, has_iff (low_ok hb hlt)]; rfl
  have iff2 : inn e (highB b) = true ↔ b.bits + 1 ≤ e.bits ∧ b.base + pw (b.bits + 1) ≤ e.base ∧ e.base < b.base + pw (b.bits + 1) + pw (b.bits + 1) := by
    unfold inn; rw [Bool.and_eq_true, decide_eq_true_eq, has_iff (high_ok hb hlt)]; rfl
  have iff0 : inn e b = true ↔ b.bits ≤ e.bits ∧ b.base ≤ e.base ∧ e.base < b.base + pw b.bits := by
    unfold inn; rw [Bool.and_eq_true, decide_eq_true_eq, has_iff hb]
  have l1 : (lowB b).bits = b.bits + 1 := rfl
  have l2 : (highB b).bits = b.bits + 1 := rfl
  rw [l1, l2]
  by_cases h0 : inn e b = true
  · rw [if_pos h0]
    by_cases hs : inn b e = true
    · simp only [h0, hs, Bool.not_true, Bool.and_false, Bool.false_eq_true, if_false]
      have : e.bits ≤ b.bits := by unfold inn at hs; rw [Bool.and_eq_true, decide_eq_true_eq] at hs; exact hs.1
      have n1 : ¬ inn e (lowB b) = true := fun h => by have := iff1.1 h; omega
      have n2 : ¬ inn e (highB b) = true := fun h => by have := iff2.1 h; omega
      rw [if_neg n1, if_neg n2]; omega
    · have hs' : inn b e = false := by simpa using hs
      simp only [h0, hs', Bool.not_false, Bool.and_true, if_true]
      have hk := iff0.1 h0
      have hne : b.bits < e.bits := by
        rcases Int.lt_or_le b.bits e.bits with h | h
        · exact h
        · exfalso
          have eb : e.bits = b.bits := by omega
          obtain ⟨e0, e1, e3, e4, e5⟩ := blkOk_true.1 he
          apply hs
          rcases share_inn (ip := e.base) he hb ((has_iff he _).2 ⟨Int.le_refl _, by have := pw_pos e.bits; omega⟩) ((has_iff hb _).2 ⟨hk.2.1, hk.2.2⟩) with h' | h'
          · have ha : blkHas e.base b = true := (has_iff hb _).2 ⟨hk.2.1, hk.2.2⟩
            unfold inn
            rw [Bool.and_eq_true, decide_eq_true_eq]
            refine ⟨by omega, ?_⟩
            unfold blkHas at ha ⊢
            rw [decide_eq_true_eq] at ha ⊢
            rw [eb]; exact ha.symm
          · exact h'
      by_cases c : e.base < b.base + pw (b.bits + 1)
      · have n2 : ¬ inn e (highB b) = true := fun h => by have := iff2.1 h; omega
        rw [if_neg n2, if_pos (iff1.2 ⟨by omega, hk.2.1, c⟩)]; omega
      · have n1 : ¬ inn e (lowB b) = true := fun h => by have := iff1.1 h; omega
        rw [if_neg n1, if_pos (iff2.2 ⟨by omega, by omega, by omega⟩)]; omega
  · rw [if_neg h0]
    have n1 : ¬ inn e (lowB b) = true := fun h => h0 (iff0.2 (by have := iff1.1 h; omega))
    have n2 : ¬ inn e (highB b) = true := fun h => h0 (iff0.2 (by have := iff2.1 h; omega))
    have h0' : inn e b = false := by simpa using h0
    rw [if_neg n1, if_neg n2]; simp [h0']

def deps (b : DBlk) : List DBlk → Nat
  | [] => 0
  | e :: l => dep b e + deps b l
theorem deps_split {b : DBlk} (hb : blkOk b = true) (hlt : b.bits < 32) : ∀ l : List DBlk, l.all blkOk = true → l.any (inn b) = false → deps (lowB b) l + deps (highB b) l + (if (l.any fun e => inn e b) then 1 else 0) ≤ deps b l
  | [], _, _ => by simp [deps]
  | e :: l, he, hn => by
    rw [List.all_cons, Bool.and_eq_true] at he
    rw [List.any_cons, Bool.or_eq_false_iff] at hn
    have h1 := dep_split hb he.1 hlt
    have h2 := deps_split hb hlt l he.2 hn.2
    rw [hn.1] at h1
    simp only [Bool.not_false, Bool.and_true] at h1
    simp only [deps]
    by_cases hc : inn e b = true
    · rw [if_pos hc] at h1
      rw [if_pos (by simp [hc])]
      split at h2 <;> omega
    · rw [if_neg hc] at h1
      by_cases hd : (l.any fun e => inn e b) = true
      · rw [if_pos hd] at h2
        rw [if_pos (by simp [hd])]; omega
      · rw [if_neg hd] at h2
        rw [if_neg (by rw [List.any_cons, Bool.or_eq_true, not_or]; exact ⟨hc, hd⟩)]; omega
theorem wout_len : ∀ (f : Nat) (b : DBlk) (ex : List DBlk), blkOk b = true → ex.all blkOk = true → (wout f b ex).length ≤ 1 + deps b ex
  | 0, _, _, _, _ => by simp [wout]
  | f + 1, b, ex, hb, he => by
    rw [wout]
    by_cases h1 : ex.any (inn b) = true
    · rw [if_pos h1]; simp
    · rw [if_neg h1]
      by_cases h2 : (ex.any fun e => inn e b) = true
      · rw [if_pos h2]
        have hlt : b.bits < 32 := by
          obtain ⟨_, hb32, _⟩ := blkOk_true.1 hb
          obtain ⟨e, hem, hei⟩ := List.any_eq_true.1 h2
          rcases Int.lt_or_le b.bits 32 with h | h
          · exact h
          · exact absurd (List.any_eq_true.2 ⟨e, hem, inn_full (List.all_eq_true.1 he e hem) hb hei (by omega)⟩) h1
        have a1 := wout_len f (lowB b) ex (low_ok hb hlt) he
        have a2 := wout_len f (highB b) ex (high_ok hb hlt) he
        have a3 := deps_split hb hlt ex he (by simpa using h1)
        rw [h2, if_pos rfl] at a3
        rw [List.length_append]; omega
      · rw [if_neg h2]; simp
theorem deps_le {b : DBlk} (hb : blkOk b = true) : ∀ l : List DBlk, l.all blkOk = true → deps b l ≤ 32 * l.length
  | [], _ => by simp [deps]
  | e :: l, he => by
    rw [List.all_cons, Bool.and_eq_true] at he
    have := deps_le hb l he.2
    have h1 := (blkOk_true.1 hb).1
    have h2 := (blkOk_true.1 he.1).2.1
    simp only [deps, List.length_cons, dep]
    split <;> omega
theorem wout_le (f : Nat) {b : DBlk} {ex : List DBlk} (hb : blkOk b = true) (he : ex.all blkOk = true) (hl : ex.length ≤ 2) : (wout f b ex).length ≤ 65 := by
  have h1 := wout_len f b ex hb he
  have h2 := deps_le hb ex he
  omega
end Go.Proofs.YtmkjlhplgcifiaaGreat
namespace Go.Proofs.YtmkjlhplgcifiaaGreat
open Go.ChangeShapes Go.WideShapes Go.ChangeAt Go.RowKit
attribute [local simp] World.cell?_grow
attribute [local go_sem] World.cell?_grow
set_option linter.unusedVariables false
set_option linter.unusedSimpArgs false

theorem prtFits_any (x : DPort) (k : DPkt) (w : World) :
    Calls Tryz.prog 105 #[.agg #[.int .i64 x.proto, .int .i64 x.lo, .int .i64 x.hi], .agg #[.int .i64 k.src, .int .i64 k.dst, .int .i64 k.proto, .int .i64 k.port]] w fun e w' => e = .returned (.bool (prtFits k x)) ∧ Below w.heap.size w w' := by
  by_cases h0 : x.proto = 0
  · have HF := hid (show prtFits k x = btw k.port x.lo x.hi by simp [prtFits, h0])
    have h1 : (x.proto == 0) = true := by simp [h0]
    clear h0
    go_enter Tryz.func105, Tryz.ntmps105
    go_wp2_with (go_at_call 63; refine (within_any _ _ _ _).mono ?_; rintro e w' ⟨rfl, rfl⟩)
    go_ret
    exact ⟨ret_bool (by rw [HF.out]), (by repeat (first | exact Below.refl _ _ | assumption | apply Ext.alloc | apply Ext.drewN | apply Ext.drew | refine Ext.trans ?_ (by assumption)))⟩
  · have h1 : (x.proto == 0) = false := by simp [h0]
    by_cases h2 : x.proto = k.proto
    · have HF := hid (show prtFits k x = btw k.port x.lo x.hi by simp [prtFits, h2])
      have h3 : (x.proto == k.proto) = true := by simp [h2]
      clear h2 h0
      go_enter Tryz.func105, Tryz.ntmps105
      go_wp2_with (go_at_call 63; refine (within_any _ _ _ _).mono ?_; rintro e w' ⟨rfl, rfl⟩)
      go_ret
      exact ⟨ret_bool (by rw [HF.out]), (by repeat (first | exact Below.refl _ _ | assumption | apply Ext.alloc | apply Ext.drewN | apply Ext.drew | refine Ext.trans ?_ (by assumption)))⟩
    · have HF := hid (show prtFits k x = false by simp [prtFits, h2, h0])
      have h3 : (x.proto == k.proto) = false := by simp [h2]
      clear h2 h0
      go_enter Tryz.func105, Tryz.ntmps105
      go_wp2_with (go_at_call 63; refine (within_any _ _ _ _).mono ?_; rintro e w' ⟨rfl, rfl⟩)
      go_ret
      exact ⟨ret_bool (by rw [HF.out]), (by repeat (first | exact Below.refl _ _ | assumption | apply Ext.alloc | apply Ext.drewN | apply Ext.drew | refine Ext.trans ?_ (by assumption)))⟩

theorem ends_out (k : DPkt) (w : World) :
    Calls Tryz.prog 92 #[.agg #[.int .i64 k.src, .int .i64 k.dst, .int .i64 k.proto, .int .i64 k.port], .int .i64 1] w fun e w' => e = .returned (.tuple #[.int .i64 k.src, .int .i64 k.dst]) ∧ Below w.heap.size w w' := by
  go_enter Tryz.func92, Tryz.ntmps92
  go_wp2
  refine wp_region_grow (by kernel_rfl) (by kernel_rfl) ?_
  repeat (go_big_quiet_step (fail))
  refine wpQuiet_nil ?_
  intro w1 hb1
  obtain ⟨hc1, hf1⟩ := bcell hb1
  have hz1 := hb_lt hb1
  go_wp2
  go_ret2
  exact ⟨rfl, (by repeat (first | exact Below.refl _ _ | assumption | apply Ext.alloc | apply Ext.drewN | apply Ext.drew | refine Ext.trans ?_ (by assumption)))⟩
theorem ends_in (k : DPkt) (w : World) :
    Calls Tryz.prog 92 #[.agg #[.int .i64 k.src, .int .i64 k.dst, .int .i64 k.proto, .int .i64 k.port], .int .i64 2] w fun e w' => e = .returned (.tuple #[.int .i64 k.dst, .int .i64 k.src]) ∧ Below w.heap.size w w' := by
  go_enter Tryz.func92, Tryz.ntmps92
  go_wp2
  refine wp_region_grow (by kernel_rfl) (by kernel_rfl) ?_
  repeat (go_big_quiet_step (fail))
  refine wpQuiet_nil ?_
  intro w1 hb1
  obtain ⟨hc1, hf1⟩ := bcell hb1
  have hz1 := hb_lt hb1
  go_wp2
  go_ret2
  exact ⟨rfl, (by repeat (first | exact Below.refl _ _ | assumption | apply Ext.alloc | apply Ext.drewN | apply Ext.drew | refine Ext.trans ?_ (by assumption)))⟩

def most (ways way : Int) : Int := if ways = 3 ∨ ways = way then 2 else 0
theorem mostRules_any (ways : Int) (w : World) :
    Calls Tryz.prog 118 #[.int .i64 ways] w fun e w' => e = .returned (.tuple #[.int .i64 (most ways 1), .int .i64 (most ways 2)]) ∧ w' = w := by
  by_cases h3 : ways = 3
  · subst h3
    go_enter Tryz.func118, Tryz.ntmps118
    go_wp2
    go_ret2
    exact ⟨rfl, rfl⟩
  by_cases h1 : ways = 1
  · subst h1
    go_enter Tryz.func118, Tryz.ntmps118
    go_wp2
    go_ret2
    exact ⟨rfl, rfl⟩
  by_cases h2 : ways = 2
  · subst h2
    go_enter Tryz.func118, Tryz.ntmps118
    go_wp2
    go_ret2
    exact ⟨rfl, rfl⟩
  have b1 : (ways == 1) = false := by simp [h1]
  have b2 : (ways == 2) = false := by simp [h2]
  have b3 : (ways == 3) = false := by simp [h3]
  have e1 := hid (show most ways 1 = 0 by simp [most, h1, h3])
  have e2 := hid (show most ways 2 = 0 by simp [most, h2, h3])
  clear h1 h2 h3
  go_enter Tryz.func118, Tryz.ntmps118
  go_wp2
  go_ret2
  exact ⟨by rw [e1.out, e2.out]; rfl, rfl⟩

theorem pow8 (k : Nat) (h : k ≤ 8) : (1 : Int) ≤ 2 ^ k ∧ (2 : Int) ^ k ≤ 256 := by
  have : (2 : Nat) ^ k ≤ 2 ^ 8 := Nat.pow_le_pow_right (by omega) h
  have h0 : 0 < (2 : Nat) ^ k := Nat.pow_pos (by omega)
  have e : ((2 : Int) ^ k) = ((2 ^ k : Nat) : Int) := by simp
  rw [e]
  omega
theorem all_take_succ (f : Nat → Bool) (k : Nat) (h : (List.range k).all f = true) (hf : f k = true) : (List.range (k + 1)).all f = true := by
  rw [List.range_succ, List.all_append, h]; simp [hf]
theorem all_bad (f : Nat → Bool) (k n : Nat) (hk : k < n) (hf : f k = false) : (List.range n).all f = false := by
  rw [Bool.eq_false_iff]
  intro h
  have := List.all_eq_true.1 h k (List.mem_range.2 hk)
  rw [hf] at this
  cases this

set_option maxHeartbeats 4000000 in
theorem refSelects_any (need ban labels : Int) (w : World) (n0 : 0 ≤ need) (n1 : need ≤ 255) (b0 : 0 ≤ ban) (b1 : ban ≤ 255) (l0 : 0 ≤ labels) (l1 : labels ≤ 255) :
    Calls Tryz.prog 139 #[.agg #[.int .i64 need, .int .i64 ban], .int .i64 labels] w fun e w' => e = .returned (.bool (sels need ban labels)) ∧ Below w.heap.size w w' := by
  go_enter Tryz.func139, Tryz.ntmps139
  go_wp2
  go_loop [5, 6] (fun n i => ∃ k : Nat, k ≤ 8 ∧ i = .int .i64 k ∧ n = .int .i64 (2 ^ k) ∧ (List.range k).all (fun j => bitOk need ban labels (2 ^ j)) = true) (fun _ i => (8 - intOf i).toNat)
  case atStart => exact ⟨0, by omega, rfl, rfl, rfl⟩
  case round =>
    obtain ⟨k, hk, rfl, rfl, hall⟩ := hrel
    have hp := pow8 k hk
    have HA := hid hall
    have HS := hid (show (2 : Int) ^ (k + 1) = 2 * 2 ^ k by rw [Int.pow_succ, Int.mul_comm])
    have HB := hid (show ∀ b, bitOk need ban labels (2 ^ k) = b → bitOk need ban labels (2 ^ k) = b from fun b h => h)
    clear hall
    by_cases hlt : k < 8
    · generalize hu : (2 : Int) ^ k = u at *
      have HU := hid hu
      clear hu
      have hp3 : 2 * u ≤ 512 := by omega
      have q1 : 0 ≤ need / u := Int.ediv_nonneg n0 (by omega)
      have q2 : 0 ≤ labels / u := Int.ediv_nonneg l0 (by omega)
      have q3 : 0 ≤ ban / u := Int.ediv_nonneg b0 (by omega)
      cases hbit : bitOk need ban labels u
      · cases c1 : (need / u % 2 == 1) <;> cases c2 : (labels / u % 2 == 1) <;> cases c3 : (ban / u % 2 == 1)
        all_goals (try (exfalso; revert hbit; rw [bitOk, c1, c2, c3]; decide))
        all_goals
          have HC := hid hbit
          clear hbit
          go_wp2
          go_ret
          exact ⟨ret_bool (by rw [sels, all_bad _ k 8 hlt (by rw [HU.out, HC.out])]), (by repeat (first | exact Below.refl _ _ | assumption | apply Ext.alloc | apply Ext.drewN | apply Ext.drew | refine Ext.trans ?_ (by assumption)))⟩
      · cases c1 : (need / u % 2 == 1) <;> cases c2 : (labels / u % 2 == 1) <;> cases c3 : (ban / u % 2 == 1)
        all_goals (try (exfalso; revert hbit; rw [bitOk, c1, c2, c3]; decide))
        all_goals
          have HC := hid hbit
          clear hbit
          go_wp2
          go_round
          case rel => exact ⟨k + 1, by omega, by go_num, by rw [HS.out], all_take_succ _ k HA.out (by rw [HU.out, HC.out])⟩
          case measure => simp [intOf]; omega
    · have e : k = 8 := by omega
      subst e
      go_wp2
      go_ret
      exact ⟨ret_bool (by rw [sels, HA.out]), (by repeat (first | exact Below.refl _ _ | assumption | apply Ext.alloc | apply Ext.drewN | apply Ext.drew | refine Ext.trans ?_ (by assumption)))⟩

theorem wraps_i64 (n : Int) (h₀ : 0 ≤ n) (h₁ : n < 2 ^ 8) : IntKind.i64.wrap n = n := by rw [IntKind.wrap_i64]; omega
theorem and_i64 (a b : Int) (h1 : 0 ≤ a) (h2 : a ≤ 255) (h3 : 0 ≤ b) (h4 : b ≤ 255) : bits .and .i64 a b = ((a.toNat &&& b.toNat : Nat) : Int) := by
  obtain ⟨x, rfl⟩ := Int.eq_ofNat_of_zero_le h1
  obtain ⟨y, rfl⟩ := Int.eq_ofNat_of_zero_le h3
  exact (bits_nat .i64 8 (by decide) wraps_i64 x y (by omega) (by omega)).1
theorem bit_int (a : Nat) (i : Nat) : (((a : Int) / 2 ^ i % 2 == 1) : Bool) = a.testBit i := by
  rw [Nat.testBit_eq_decide_div_mod_eq, ibeq]
  have e : ((a : Int) / 2 ^ i % 2) = ((a / 2 ^ i % 2 : Nat) : Int) := by simp
  rw [e]
  by_cases h : a / 2 ^ i % 2 = 1
  · simp [h]
  · have : ¬ ((a / 2 ^ i % 2 : Nat) : Int) = 1 := by omega
    rw [decide_eq_false this, decide_eq_false h]
theorem small_bit (a i : Nat) (h : a < 256) (hi : 8 ≤ i) : a.testBit i = false :=
  Nat.testBit_lt_two_pow (Nat.lt_of_lt_of_le (show a < 2 ^ 8 by omega) (Nat.pow_le_pow_right (by omega) hi))
theorem sels_nat (need ban labels : Nat) (hn : need < 256) (hb : ban < 256) : sels need ban labels = (decide (labels &&& need = need) && decide (labels &&& ban = 0)) := by
  have key : sels need ban labels = true ↔ (labels &&& need = need ∧ labels &&& ban = 0) := by
    simp only [sels, bitOk, bit_int, List.all_eq_true, List.mem_range]
    constructor
    · intro h
      refine ⟨Nat.eq_of_testBit_eq fun i => ?_, Nat.eq_of_testBit_eq fun i => ?_⟩
      · rw [Nat.testBit_and]
        rcases Nat.lt_or_ge i 8 with hi | hi
        · have := h i hi
          cases h1 : labels.testBit i <;> cases h2 : need.testBit i <;> simp_all
        · simp [small_bit need i hn hi]
      · rw [Nat.testBit_and]
        rcases Nat.lt_or_ge i 8 with hi | hi
        · have := h i hi
          cases h1 : labels.testBit i <;> cases h2 : ban.testBit i <;> simp_all
        · simp [small_bit ban i hb hi]
    · rintro ⟨h1, h2⟩ i hi
      have e1 := congrArg (fun x => x.testBit i) h1
      have e2 := congrArg (fun x => x.testBit i) h2
      simp only [Nat.testBit_and, Nat.zero_testBit] at e1 e2
      cases c1 : labels.testBit i <;> cases c2 : need.testBit i <;> cases c3 : ban.testBit i <;> simp_all
  by_cases h : labels &&& need = need ∧ labels &&& ban = 0
  · rw [key.2 h]; simp [h.1, h.2]
  · have : sels need ban labels = false := by
      cases hs : sels need ban labels
      · rfl
      · exact absurd (key.1 hs) h
    rw [this]
    by_cases h1 : labels &&& need = need
    · have h2 : ¬ labels &&& ban = 0 := fun h2 => h ⟨h1, h2⟩
      simp [h2]
    · simp [h1]
theorem sels_bits (need ban labels : Int) (n0 : 0 ≤ need) (n1 : need ≤ 255) (b0 : 0 ≤ ban) (b1 : ban ≤ 255) (l0 : 0 ≤ labels) (l1 : labels ≤ 255) :
    sels need ban labels = ((bits .and .i64 labels need == need) && (bits .and .i64 labels ban == 0)) := by
  rw [and_i64 _ _ l0 l1 n0 n1, and_i64 _ _ l0 l1 b0 b1]
  obtain ⟨a, rfl⟩ := Int.eq_ofNat_of_zero_le n0
  obtain ⟨b, rfl⟩ := Int.eq_ofNat_of_zero_le b0
  obtain ⟨c, rfl⟩ := Int.eq_ofNat_of_zero_le l0
  rw [sels_nat _ _ _ (by omega) (by omega), ibeq, ibeq]
  simp only [Int.toNat_natCast]
  congr 1
  · by_cases h : c &&& a = a
    · simp [h]
    · rw [decide_eq_false h, decide_eq_false (by omega)]
  · by_cases h : c &&& b = 0
    · simp [h]
    · rw [decide_eq_false h, decide_eq_false (by omega)]

theorem selects_any (need ban host ip space labels : Int) (w : World) (n0 : 0 ≤ need) (n1 : need ≤ 255) (b0 : 0 ≤ ban) (b1 : ban ≤ 255) (l0 : 0 ≤ labels) (l1 : labels ≤ 255) :
    Calls Tryz.prog 154 #[.agg #[.int .i64 need, .int .i64 ban], .agg #[.int .i64 host, .int .i64 ip, .int .i64 space, .int .i64 labels]] w fun e w' => e = .returned (.bool (sels need ban labels)) ∧ Below w.heap.size w w' := by
  have HS := hid (sels_bits need ban labels n0 n1 b0 b1 l0 l1)
  cases h1 : (bits .and .i64 labels need == need)
  · have HT := hid (show sels need ban labels = false by rw [HS.out, h1]; rfl)
    go_enter Tryz.func154, Tryz.ntmps154
    go_wp2
    go_ret
    exact ⟨ret_bool (by rw [HT.out]), (by repeat (first | exact Below.refl _ _ | assumption | apply Ext.alloc | apply Ext.drewN | apply Ext.drew | refine Ext.trans ?_ (by assumption)))⟩
  · have HT := hid (show sels need ban labels = (bits .and .i64 labels ban == 0) by rw [HS.out, h1]; rfl)
    go_enter Tryz.func154, Tryz.ntmps154
    go_wp2
    go_ret
    exact ⟨ret_bool (by rw [HT.out]), (by repeat (first | exact Below.refl _ _ | assumption | apply Ext.alloc | apply Ext.drewN | apply Ext.drew | refine Ext.trans ?_ (by assumption)))⟩
end Go.Proofs.YtmkjlhplgcifiaaGreat
namespace Go.Proofs.YtmkjlhplgcifiaaGreat
open Go.ChangeShapes Go.WideShapes Go.ChangeAt Go.RowKit
attribute [local simp] World.cell?_grow
attribute [local go_sem] World.cell?_grow
attribute [local go_sem] eqg_blk std_blk eqg_pod std_pod eqg_sel std_sel eqg_prt std_prt
attribute [local go_sem ↓] eql_blk eql_sel neq_sel eql_prt eql_pod
set_option linter.unusedVariables false
set_option linter.unusedSimpArgs false

theorem all_false {α : Type} {l : List α} {f : α → Bool} {k : Nat} {x : α} (h : l[k]? = some x) (hf : f x = false) : l.all f = false := by
  rw [Bool.eq_false_iff]
  intro h2
  have := List.all_eq_true.1 h2 x (List.mem_of_getElem? h)
  rw [hf] at this
  cases this
theorem any_true {α : Type} {l : List α} {f : α → Bool} {k : Nat} {x : α} (h : l[k]? = some x) (hf : f x = true) : l.any f = true :=
  List.any_eq_true.2 ⟨x, List.mem_of_getElem? h, hf⟩
theorem take_all {α : Type} {l : List α} {f : α → Bool} {k : Nat} {x : α} (h : l[k]? = some x) (hall : (l.take k).all f = true) (hf : f x = true) : (l.take (k + 1)).all f = true := by
  rw [List.take_add_one, h, List.all_append, hall]; simp [hf]
theorem take_any {α : Type} {l : List α} {f : α → Bool} {k : Nat} {x : α} (h : l[k]? = some x) (hall : (l.take k).any f = false) (hf : f x = false) : (l.take (k + 1)).any f = false := by
  rw [List.take_add_one, h, List.any_append, hall]; simp [hf]
theorem rdBlks.to {w w' : World} {a : Option Addr} {l : List DBlk} (h : rdBlks w.heap.size w a l) (hb : Below w.heap.size w w') : rdBlks w'.heap.size w' a l := rdBlks.ext hb hb.size h
theorem rdPods.to {w w' : World} {a : Option Addr} {l : List DPod} (h : rdPods w.heap.size w a l) (hb : Below w.heap.size w w') : rdPods w'.heap.size w' a l := rdPods.ext hb hb.size h
theorem rdPorts.to {w w' : World} {a : Option Addr} {l : List DPort} (h : rdPorts w.heap.size w a l) (hb : Below w.heap.size w w') : rdPorts w'.heap.size w' a l := rdPorts.ext hb hb.size h
theorem rdPeers.to {w w' : World} {a : Option Addr} {l : List DPeer} (h : rdPeers w.heap.size w a l) (hb : Below w.heap.size w w') : rdPeers w'.heap.size w' a l := rdPeers.ext hb hb.size h
theorem rdRules.to {w w' : World} {a : Option Addr} {l : List DRule} (h : rdRules w.heap.size w a l) (hb : Below w.heap.size w w') : rdRules w'.heap.size w' a l := rdRules.ext hb hb.size h
theorem rdPols.to {w w' : World} {a : Option Addr} {l : List DPol} (h : rdPols w.heap.size w a l) (hb : Below w.heap.size w w') : rdPols w'.heap.size w' a l := rdPols.ext hb hb.size h

theorem allBlk (f : DBlk → Bool) (a : Option Addr) (cap : Nat) (l : List DBlk) (w : World) (hl : rdBlks w.heap.size w a l)
    (hK : ∀ (x : DBlk) (w1 : World), x ∈ l → Below w.heap.size w w1 → Calls Tryz.prog 219 #[.agg #[.int .i64 x.base, .int .i64 x.bits]] w1 fun e w2 => e = .returned (.bool (f x)) ∧ Below w1.heap.size w1 w2) :
    Calls Tryz.prog 221 #[.slice a l.length cap, .func (.func 219) #[] #[]] w fun e w' => e = .returned (.bool (l.all f)) ∧ Below w.heap.size w w' := by
  have HK := hid hK
  obtain ⟨hlen, hl⟩ := hl
  have HL := hid hl
  clear hl hK
  go_enter Tryz.func221, Tryz.ntmps221
  go_wp2
  go_loopw [9] (fun i wr => ∃ k : Nat, k ≤ l.length ∧ i = .int .i64 k ∧ (l.take k).all f = true ∧ Below w.heap.size w wr) (fun i _ => l.length - (intOf i).toNat)
  case atStart => exact ⟨0, Nat.zero_le _, rfl, rfl, Below.refl _ _⟩
  case round =>
    obtain ⟨k, hk, rfl, hall, hbw⟩ := hrel
    have HA := hid hall
    clear hall
    by_cases hlt : k < l.length
    · obtain ⟨hc, hf⟩ := bcell hbw
      obtain ⟨x, hxk⟩ : ∃ x, l[k]? = some x := ⟨l[k], by simp [hlt]⟩
      have HX := hid hxk
      clear hxk
      obtain ⟨b, off, rfl, hb, c0, c1⟩ := HL.out k x HX.out
      cases hx : f x
      · go_wp2_with (go_at_call 219; refine (HK.out x _ (List.mem_of_getElem? HX.out) (by repeat (first | exact Below.refl _ _ | assumption | apply Ext.alloc | apply Ext.drewN | apply Ext.drew | refine Ext.trans ?_ (by assumption)))).mono ?_; rintro e w1 ⟨rfl, hb1⟩)
        go_ret
        exact ⟨ret_bool (by rw [all_false HX.out hx]), (by repeat (first | exact Below.refl _ _ | assumption | apply Ext.alloc | apply Ext.drewN | apply Ext.drew | refine Ext.trans ?_ (by assumption)))⟩
      · go_wp2_with (go_at_call 219; refine (HK.out x _ (List.mem_of_getElem? HX.out) (by repeat (first | exact Below.refl _ _ | assumption | apply Ext.alloc | apply Ext.drewN | apply Ext.drew | refine Ext.trans ?_ (by assumption)))).mono ?_; rintro e w1 ⟨rfl, hb1⟩)
        exact ⟨⟨k + 1, by omega, by go_num, take_all HX.out HA.out hx, (by repeat (first | exact Below.refl _ _ | assumption | apply Ext.alloc | apply Ext.drewN | apply Ext.drew | refine Ext.trans ?_ (by assumption)))⟩, by simp [intOf]; omega⟩
    · go_wp2
      go_ret
      have := HA.out
      rw [List.take_of_length_le (by omega)] at this
      exact ⟨ret_bool (by rw [this]), hbw⟩

theorem fewBlk (f : DBlk → Bool) (a : Option Addr) (cap : Nat) (l : List DBlk) (most : Int) (w : World) (hl : rdBlks w.heap.size w a l)
    (hK : ∀ (x : DBlk) (w1 : World), x ∈ l → Below w.heap.size w w1 → Calls Tryz.prog 219 #[.agg #[.int .i64 x.base, .int .i64 x.bits]] w1 fun e w2 => e = .returned (.bool (f x)) ∧ Below w1.heap.size w1 w2) :
    Calls Tryz.prog 220 #[.slice a l.length cap, .int .i64 most, .func (.func 219) #[] #[]] w fun e w' => e = .returned (.bool (few l most f)) ∧ Below w.heap.size w w' := by
  have HK := hid hK
  have HL := hid hl
  have hlen := hl.1
  clear hK hl
  by_cases h : (l.length : Int) ≤ most
  · have HF := hid (show few l most f = l.all f by simp [few, h])
    go_enter Tryz.func220, Tryz.ntmps220
    go_wp2_with (go_at_call 221; refine (allBlk f _ _ _ _ HL.out HK.out).mono ?_; rintro e w1 ⟨rfl, hb1⟩)
    go_ret
    exact ⟨ret_bool (by rw [HF.out]), (by repeat (first | exact Below.refl _ _ | assumption | apply Ext.alloc | apply Ext.drewN | apply Ext.drew | refine Ext.trans ?_ (by assumption)))⟩
  · have HF := hid (show few l most f = false by simp [few, h])
    go_enter Tryz.func220, Tryz.ntmps220
    go_wp2
    go_ret
    exact ⟨ret_bool (by rw [HF.out]), (by repeat (first | exact Below.refl _ _ | assumption | apply Ext.alloc | apply Ext.drewN | apply Ext.drew | refine Ext.trans ?_ (by assumption)))⟩

theorem anyBlk (f : DBlk → Bool) (k0 : Value) (a : Option Addr) (cap : Nat) (l : List DBlk) (w : World) (hl : rdBlks w.heap.size w a l)
    (hK : ∀ (x : DBlk) (w1 : World), x ∈ l → Below w.heap.size w w1 → Calls Tryz.prog 234 #[.agg #[.int .i64 x.base, .int .i64 x.bits], k0] w1 fun e w2 => e = .returned (.bool (f x)) ∧ Below w1.heap.size w1 w2) :
    Calls Tryz.prog 235 #[.slice a l.length cap, .func (.func 234) #[] #[k0]] w fun e w' => e = .returned (.bool (l.any f)) ∧ Below w.heap.size w w' := by
  have HK := hid hK
  obtain ⟨hlen, hl⟩ := hl
  have HL := hid hl
  clear hl hK
  go_enter Tryz.func235, Tryz.ntmps235
  go_wp2
  go_loopw [9] (fun i wr => ∃ k : Nat, k ≤ l.length ∧ i = .int .i64 k ∧ (l.take k).any f = false ∧ Below w.heap.size w wr) (fun i _ => l.length - (intOf i).toNat)
  case atStart => exact ⟨0, Nat.zero_le _, rfl, rfl, Below.refl _ _⟩
  case round =>
    obtain ⟨k, hk, rfl, hall, hbw⟩ := hrel
    have HA := hid hall
    clear hall
    by_cases hlt : k < l.length
    · obtain ⟨hc, hf⟩ := bcell hbw
      obtain ⟨x, hxk⟩ : ∃ x, l[k]? = some x := ⟨l[k], by simp [hlt]⟩
      have HX := hid hxk
      clear hxk
      obtain ⟨b, off, rfl, hb, c0, c1⟩ := HL.out k x HX.out
      cases hx : f x
      · go_wp2_with (go_at_call 234; refine (HK.out x _ (List.mem_of_getElem? HX.out) (by repeat (first | exact Below.refl _ _ | assumption | apply Ext.alloc | apply Ext.drewN | apply Ext.drew | refine Ext.trans ?_ (by assumption)))).mono ?_; rintro e w1 ⟨rfl, hb1⟩)
        exact ⟨⟨k + 1, by omega, by go_num, take_any HX.out HA.out hx, (by repeat (first | exact Below.refl _ _ | assumption | apply Ext.alloc | apply Ext.drewN | apply Ext.drew | refine Ext.trans ?_ (by assumption)))⟩, by simp [intOf]; omega⟩
      · go_wp2_with (go_at_call 234; refine (HK.out x _ (List.mem_of_getElem? HX.out) (by repeat (first | exact Below.refl _ _ | assumption | apply Ext.alloc | apply Ext.drewN | apply Ext.drew | refine Ext.trans ?_ (by assumption)))).mono ?_; rintro e w1 ⟨rfl, hb1⟩)
        go_ret
        exact ⟨ret_bool (by rw [any_true HX.out hx]), (by repeat (first | exact Below.refl _ _ | assumption | apply Ext.alloc | apply Ext.drewN | apply Ext.drew | refine Ext.trans ?_ (by assumption)))⟩
    · go_wp2
      go_ret
      have := HA.out
      rw [List.take_of_length_le (by omega)] at this
      exact ⟨ret_bool (by rw [this]), hbw⟩
end Go.Proofs.YtmkjlhplgcifiaaGreat
namespace Go.Proofs.YtmkjlhplgcifiaaGreat
open Go.ChangeShapes Go.WideShapes Go.ChangeAt Go.RowKit
attribute [local simp] World.cell?_grow
attribute [local go_sem] World.cell?_grow
attribute [local go_sem] eqg_blk std_blk eqg_pod std_pod eqg_sel std_sel eqg_prt std_prt
attribute [local go_sem ↓] eql_blk eql_sel neq_sel eql_prt eql_pod
set_option linter.unusedVariables false
set_option linter.unusedSimpArgs false


theorem allPort (f : DPort → Bool) (a : Option Addr) (cap : Nat) (l : List DPort) (w : World) (hl : rdPorts w.heap.size w a l)
    (hK : ∀ (x : DPort) (w1 : World), x ∈ l → Below w.heap.size w w1 → Calls Tryz.prog 153 #[.agg #[.int .i64 x.proto, .int .i64 x.lo, .int .i64 x.hi]] w1 fun e w2 => e = .returned (.bool (f x)) ∧ Below w1.heap.size w1 w2) :
    Calls Tryz.prog 173 #[.slice a l.length cap, .func (.func 153) #[] #[]] w fun e w' => e = .returned (.bool (l.all f)) ∧ Below w.heap.size w w' := by
  have HK := hid hK
  obtain ⟨hlen, hl⟩ := hl
  have HL := hid hl
  clear hl hK
  go_enter Tryz.func173, Tryz.ntmps173
  go_wp2
  go_loopw [9] (fun i wr => ∃ k : Nat, k ≤ l.length ∧ i = .int .i64 k ∧ (l.take k).all f = true ∧ Below w.heap.size w wr) (fun i _ => l.length - (intOf i).toNat)
  case atStart => exact ⟨0, Nat.zero_le _, rfl, rfl, Below.refl _ _⟩
  case round =>
    obtain ⟨k, hk, rfl, hall, hbw⟩ := hrel
    have HA := hid hall
    clear hall
    by_cases hlt : k < l.length
    · obtain ⟨hc, hf⟩ := bcell hbw
      obtain ⟨x, hxk⟩ : ∃ x, l[k]? = some x := ⟨l[k], by simp [hlt]⟩
      have HX := hid hxk
      clear hxk
      obtain ⟨b, off, rfl, hb, c0, c1, c2⟩ := HL.out k x HX.out
      cases hx : f x
      · go_wp2_with (go_at_call 153; refine (HK.out x _ (List.mem_of_getElem? HX.out) (by repeat (first | exact Below.refl _ _ | assumption | apply Ext.alloc | apply Ext.drewN | apply Ext.drew | refine Ext.trans ?_ (by assumption)))).mono ?_; rintro e w1 ⟨rfl, hb1⟩)
        go_ret
        exact ⟨ret_bool (by rw [all_false HX.out hx]), (by repeat (first | exact Below.refl _ _ | assumption | apply Ext.alloc | apply Ext.drewN | apply Ext.drew | refine Ext.trans ?_ (by assumption)))⟩
      · go_wp2_with (go_at_call 153; refine (HK.out x _ (List.mem_of_getElem? HX.out) (by repeat (first | exact Below.refl _ _ | assumption | apply Ext.alloc | apply Ext.drewN | apply Ext.drew | refine Ext.trans ?_ (by assumption)))).mono ?_; rintro e w1 ⟨rfl, hb1⟩)
        exact ⟨⟨k + 1, by omega, by go_num, take_all HX.out HA.out hx, (by repeat (first | exact Below.refl _ _ | assumption | apply Ext.alloc | apply Ext.drewN | apply Ext.drew | refine Ext.trans ?_ (by assumption)))⟩, by simp [intOf]; omega⟩
    · go_wp2
      go_ret
      have := HA.out
      rw [List.take_of_length_le (by omega)] at this
      exact ⟨ret_bool (by rw [this]), hbw⟩

theorem fewPort (f : DPort → Bool) (a : Option Addr) (cap : Nat) (l : List DPort) (most : Int) (w : World) (hl : rdPorts w.heap.size w a l)
    (hK : ∀ (x : DPort) (w1 : World), x ∈ l → Below w.heap.size w w1 → Calls Tryz.prog 153 #[.agg #[.int .i64 x.proto, .int .i64 x.lo, .int .i64 x.hi]] w1 fun e w2 => e = .returned (.bool (f x)) ∧ Below w1.heap.size w1 w2) :
    Calls Tryz.prog 152 #[.slice a l.length cap, .int .i64 most, .func (.func 153) #[] #[]] w fun e w' => e = .returned (.bool (few l most f)) ∧ Below w.heap.size w w' := by
  have HK := hid hK
  have HL := hid hl
  have hlen := hl.1
  clear hK hl
  by_cases h : (l.length : Int) ≤ most
  · have HF := hid (show few l most f = l.all f by simp [few, h])
    go_enter Tryz.func152, Tryz.ntmps152
    go_wp2_with (go_at_call 173; refine (allPort f _ _ _ _ HL.out HK.out).mono ?_; rintro e w1 ⟨rfl, hb1⟩)
    go_ret
    exact ⟨ret_bool (by rw [HF.out]), (by repeat (first | exact Below.refl _ _ | assumption | apply Ext.alloc | apply Ext.drewN | apply Ext.drew | refine Ext.trans ?_ (by assumption)))⟩
  · have HF := hid (show few l most f = false by simp [few, h])
    go_enter Tryz.func152, Tryz.ntmps152
    go_wp2
    go_ret
    exact ⟨ret_bool (by rw [HF.out]), (by repeat (first | exact Below.refl _ _ | assumption | apply Ext.alloc | apply Ext.drewN | apply Ext.drew | refine Ext.trans ?_ (by assumption)))⟩

theorem anyPort (f : DPort → Bool) (k0 : Value) (a : Option Addr) (cap : Nat) (l : List DPort) (w : World) (hl : rdPorts w.heap.size w a l)
    (hK : ∀ (x : DPort) (w1 : World), x ∈ l → Below w.heap.size w w1 → Calls Tryz.prog 159 #[.agg #[.int .i64 x.proto, .int .i64 x.lo, .int .i64 x.hi], k0] w1 fun e w2 => e = .returned (.bool (f x)) ∧ Below w1.heap.size w1 w2) :
    Calls Tryz.prog 175 #[.slice a l.length cap, .func (.func 159) #[] #[k0]] w fun e w' => e = .returned (.bool (l.any f)) ∧ Below w.heap.size w w' := by
  have HK := hid hK
  obtain ⟨hlen, hl⟩ := hl
  have HL := hid hl
  clear hl hK
  go_enter Tryz.func175, Tryz.ntmps175
  go_wp2
  go_loopw [9] (fun i wr => ∃ k : Nat, k ≤ l.length ∧ i = .int .i64 k ∧ (l.take k).any f = false ∧ Below w.heap.size w wr) (fun i _ => l.length - (intOf i).toNat)
  case atStart => exact ⟨0, Nat.zero_le _, rfl, rfl, Below.refl _ _⟩
  case round =>
    obtain ⟨k, hk, rfl, hall, hbw⟩ := hrel
    have HA := hid hall
    clear hall
    by_cases hlt : k < l.length
    · obtain ⟨hc, hf⟩ := bcell hbw
      obtain ⟨x, hxk⟩ : ∃ x, l[k]? = some x := ⟨l[k], by simp [hlt]⟩
      have HX := hid hxk
      clear hxk
      obtain ⟨b, off, rfl, hb, c0, c1, c2⟩ := HL.out k x HX.out
      cases hx : f x
      · go_wp2_with (go_at_call 159; refine (HK.out x _ (List.mem_of_getElem? HX.out) (by repeat (first | exact Below.refl _ _ | assumption | apply Ext.alloc | apply Ext.drewN | apply Ext.drew | refine Ext.trans ?_ (by assumption)))).mono ?_; rintro e w1 ⟨rfl, hb1⟩)
        exact ⟨⟨k + 1, by omega, by go_num, take_any HX.out HA.out hx, (by repeat (first | exact Below.refl _ _ | assumption | apply Ext.alloc | apply Ext.drewN | apply Ext.drew | refine Ext.trans ?_ (by assumption)))⟩, by simp [intOf]; omega⟩
      · go_wp2_with (go_at_call 159; refine (HK.out x _ (List.mem_of_getElem? HX.out) (by repeat (first | exact Below.refl _ _ | assumption | apply Ext.alloc | apply Ext.drewN | apply Ext.drew | refine Ext.trans ?_ (by assumption)))).mono ?_; rintro e w1 ⟨rfl, hb1⟩)
        go_ret
        exact ⟨ret_bool (by rw [any_true HX.out hx]), (by repeat (first | exact Below.refl _ _ | assumption | apply Ext.alloc | apply Ext.drewN | apply Ext.drew | refine Ext.trans ?_ (by assumption)))⟩
    · go_wp2
      go_ret
      have := HA.out
      rw [List.take_of_length_le (by omega)] at this
      exact ⟨ret_bool (by rw [this]), hbw⟩

theorem eoaPort (f : DPort → Bool) (k0 : Value) (a : Option Addr) (cap : Nat) (l : List DPort) (w : World) (hl : rdPorts w.heap.size w a l)
    (hK : ∀ (x : DPort) (w1 : World), x ∈ l → Below w.heap.size w w1 → Calls Tryz.prog 159 #[.agg #[.int .i64 x.proto, .int .i64 x.lo, .int .i64 x.hi], k0] w1 fun e w2 => e = .returned (.bool (f x)) ∧ Below w1.heap.size w1 w2) :
    Calls Tryz.prog 158 #[.slice a l.length cap, .func (.func 159) #[] #[k0]] w fun e w' => e = .returned (.bool (eoa l f)) ∧ Below w.heap.size w w' := by
  have HK := hid hK
  have HL := hid hl
  have hlen := hl.1
  clear hK hl
  by_cases h : l.length = 0
  · have HF := hid (show eoa l f = true by simp [eoa, h])
    have h2 : ((l.length : Int) == 0) = true := by simp [h]
    go_enter Tryz.func158, Tryz.ntmps158
    go_wp2
    go_ret
    exact ⟨ret_bool (by rw [HF.out]), (by repeat (first | exact Below.refl _ _ | assumption | apply Ext.alloc | apply Ext.drewN | apply Ext.drew | refine Ext.trans ?_ (by assumption)))⟩
  · have HF := hid (show eoa l f = l.any f by simp [eoa, h])
    have h2 : ((l.length : Int) == 0) = false := by simp [h]
    go_enter Tryz.func158, Tryz.ntmps158
    go_wp2_with (go_at_call 175; refine (anyPort f _ _ _ _ _ HL.out HK.out).mono ?_; rintro e w1 ⟨rfl, hb1⟩)
    go_ret
    exact ⟨ret_bool (by rw [HF.out]), (by repeat (first | exact Below.refl _ _ | assumption | apply Ext.alloc | apply Ext.drewN | apply Ext.drew | refine Ext.trans ?_ (by assumption)))⟩

end Go.Proofs.YtmkjlhplgcifiaaGreat
