/-
  Lists of structs that hold lists: what it means that one is lent, and how it stays so.
-/
import Derived.Test.YtmkjlhplgcifiaaM2
namespace Go.Proofs.Ytmkjlhplgcifiaa
open Go.ChangeShapes Go.WideShapes Go.ChangeAt Go.RowKit
attribute [local simp] World.cell?_grow
attribute [local go_sem] World.cell?_grow
attribute [local simp] World.cell?_alloc_there
attribute [local go_sem] World.cell?_alloc_there
attribute [local go_sem] eqg_blk std_blk eqg_pod std_pod eqg_sel std_sel eqg_prt std_prt
attribute [local go_sem ↓] eql_blk eql_sel neq_sel eql_prt eql_pod
attribute [local go_sem ↓] met_in1 met_in2 met_re1 met_re2
set_option linter.unusedVariables false
set_option linter.unusedSimpArgs false

/-- cells stored one behind the other -/
def sets (w : World) (g o : Nat) : List Value → World
  | [] => w
  | v :: r => sets (w.setCell ⟨g, o, none⟩ v) g (o + 1) r
theorem sets_size (w : World) (g o : Nat) (vs : List Value) : (sets w g o vs).heap.size = w.heap.size := by
  induction vs generalizing w o with
  | nil => rfl
  | cons v r ih => rw [sets, ih]; simp [World.setCell]
theorem sets_block (w : World) (g o : Nat) (vs : List Value) (k : Nat) (h : k ≠ g) : (sets w g o vs).heap[k]? = w.heap[k]? := by
  induction vs generalizing w o with
  | nil => rfl
  | cons v r ih => rw [sets, ih, Below.heap_setCell _ _ _ _ h]
theorem sets_own (w : World) (g o n : Nat) (vs : List Value) (h : own w g n) : own (sets w g o vs) g n := by
  induction vs generalizing w o with
  | nil => exact h
  | cons v r ih => exact ih _ _ (own_set h _ _)
theorem sets_before (w : World) (g o : Nat) (vs : List Value) (p : Nat) (hp : p < o) : (sets w g o vs).cell? ⟨g, p, none⟩ = w.cell? ⟨g, p, none⟩ := by
  induction vs generalizing w o with
  | nil => rfl
  | cons v r ih => rw [sets, ih _ _ (by omega), World.cell?_setCell_other _ _ _ _ (fun h => by cases h; omega)]
theorem sets_behind (w : World) (g o : Nat) (vs : List Value) (p : Nat) (hp : o + vs.length ≤ p) : (sets w g o vs).cell? ⟨g, p, none⟩ = w.cell? ⟨g, p, none⟩ := by
  induction vs generalizing w o with
  | nil => rfl
  | cons v r ih =>
    simp only [List.length_cons] at hp
    rw [sets, ih _ _ (by omega), World.cell?_setCell_other _ _ _ _ (fun h => by cases h; omega)]
theorem sets_at (w : World) (g o n : Nat) (vs : List Value) (i : Nat) (v : Value) (hv : vs[i]? = some v) (hn : o + vs.length ≤ n) (h : own w g n) : (sets w g o vs).cell? ⟨g, o + i, none⟩ = some v := by
  induction vs generalizing w o i with
  | nil => simp at hv
  | cons u r ih =>
    simp only [List.length_cons] at hn
    cases i with
    | zero =>
      simp at hv
      subst hv
      rw [sets, sets_before _ _ _ _ _ (by omega)]
      obtain ⟨x, hx⟩ := h.1 o (by omega)
      exact World.cell?_setCell_same w _ _ hx
    | succ i =>
      have := ih (w.setCell ⟨g, o, none⟩ u) (o + 1) i (by simpa using hv) (by omega) (own_set h _ _)
      rw [sets]
      rwa [show o + (i + 1) = o + 1 + i by omega]
theorem sets_only (w : World) (g o : Nat) (vs : List Value) : Only g (g + 1) w (sets w g o vs) := by
  induction vs generalizing w o with
  | nil => exact Only.refl _ _ _
  | cons v r ih =>
    have h1 : Only g (g + 1) w (w.setCell ⟨g, o, none⟩ v) := (Only.refl g (g + 1) w).setCell (p := ⟨g, o, none⟩) (Nat.le_refl _) (Nat.lt_succ_self _) v
    exact h1.trans (ih _ _)

/-- the address of the list in a field of an element of a list -/
def subA (w : World) (a : Option Addr) (o : Nat) : Option Addr :=
  match a with
  | none => none
  | some a => match w.cell? ⟨a.block, a.off + o, none⟩ with
    | some (.slice s _ _) => s
    | _ => none
theorem subA_eq {w : World} {b off o n c : Nat} {s : Option Addr} (h : w.cell? ⟨b, off + o, none⟩ = some (.slice s n c)) : subA w (some ⟨b, off, none⟩) o = s := by
  simp only [subA, h]

/-- elements so far: each in its own cells of block g and in blocks of its own from f i up to f (i + 1) -/
def LnL (sz n : Nat) (E : World → Nat → Nat → Nat → Prop) (w : World) (g : Nat) (f : Nat → Nat) (k : Nat) : Prop :=
  own w g ((n + 1) * sz) ∧ g < f 0 ∧ (∀ i, i < k → f i ≤ f (i + 1)) ∧ ∀ i, i < k → E w (f i) (f (i + 1)) i
def Stab (sz g : Nat) (E : World → Nat → Nat → Nat → Prop) : Prop :=
  ∀ w w' lo hi i, (∀ o, i * sz ≤ o → o < (i + 1) * sz → w'.cell? ⟨g, o, none⟩ = w.cell? ⟨g, o, none⟩) → (∀ j, lo ≤ j → j < hi → w'.heap[j]? = w.heap[j]?) → E w lo hi i → E w' lo hi i
theorem mono_le {f : Nat → Nat} {k : Nat} (h : ∀ i, i < k → f i ≤ f (i + 1)) : ∀ i j, i ≤ j → j ≤ k → f i ≤ f j := by
  intro i j hij
  induction j with
  | zero => intro _; rw [show i = 0 by omega]; exact Nat.le_refl _
  | succ j ih =>
    intro hk
    rcases Nat.lt_or_ge j i with h1 | h1
    · rw [show i = j + 1 by omega]; exact Nat.le_refl _
    · exact Nat.le_trans (ih h1 (by omega)) (h j (by omega))
theorem LnL.step {sz n : Nat} {E : World → Nat → Nat → Nat → Prop} {w w2 : World} {g : Nat} {f : Nat → Nat} {k : Nat} (hE : Stab sz g E) (h : LnL sz n E w g f k) (hf : f k = w.heap.size)
    (ho : own w2 g ((n + 1) * sz)) (hc : ∀ o, o < k * sz → w2.cell? ⟨g, o, none⟩ = w.cell? ⟨g, o, none⟩) (hb : ∀ j, j < w.heap.size → j ≠ g → w2.heap[j]? = w.heap[j]?) (hs : w.heap.size ≤ w2.heap.size)
    (hn : E w2 w.heap.size w2.heap.size k) : ∃ f', LnL sz n E w2 g f' (k + 1) ∧ f' (k + 1) = w2.heap.size := by
  obtain ⟨h1, h2, h3, h4⟩ := h
  have hm := mono_le h3
  refine ⟨fun i => if i ≤ k then f i else w2.heap.size, ⟨ho, ?_, fun i hi => ?_, fun i hi => ?_⟩, if_neg (by omega)⟩
  · simp; exact h2
  · rcases Nat.lt_or_ge i k with hk | hk
    · simp only [if_pos (Nat.le_of_lt hk), if_pos (Nat.succ_le_of_lt hk)]; exact h3 i hk
    · have : i = k := by omega
      subst this
      simp only [Nat.le_refl, if_true]
      rw [if_neg (by omega), hf]; exact hs
  · rcases Nat.lt_or_ge i k with hk | hk
    · simp only [if_pos (Nat.le_of_lt hk), if_pos (Nat.succ_le_of_lt hk)]
      refine hE w w2 _ _ i (fun o h5 h6 => hc o ?_) (fun j h5 h6 => hb j ?_ ?_) (h4 i hk)
      · have : (i + 1) * sz ≤ k * sz := Nat.mul_le_mul_right _ (by omega)
        omega
      · have := hm (i + 1) k (by omega) (Nat.le_refl _)
        omega
      · have := hm 0 i (by omega) (by omega)
        omega
    · have : i = k := by omega
      subst this
      simp only [Nat.le_refl, if_true]
      rw [if_neg (by omega), hf]; exact hn
theorem LnL.to {sz n : Nat} {E : World → Nat → Nat → Nat → Prop} {w w2 : World} {g : Nat} {f : Nat → Nat} {k : Nat} (hE : Stab sz g E) (h : LnL sz n E w g f k) (hg : w2.heap[g]? = w.heap[g]?) (hb : ∀ j, g < j → j < f k → w2.heap[j]? = w.heap[j]?) : LnL sz n E w2 g f k := by
  obtain ⟨h1, h2, h3, h4⟩ := h
  have hm := mono_le h3
  refine ⟨own_heap h1 hg, h2, h3, fun i hi => hE w w2 _ _ i (fun o _ _ => cell_heap hg) (fun j h5 h6 => hb j ?_ ?_) (h4 i hi)⟩
  · have := hm 0 i (by omega) (by omega); omega
  · have := hm (i + 1) k (by omega) (Nat.le_refl _); omega

/-- what a list that is lent has become: nil, or a block of the caller's own -/
def lnBlks (lo hi : Nat) (w : World) (a : Option Addr) (v : Value) (l : List DBlk) : Prop :=
  (a = none ∧ v = .slice none 0 0 ∧ l = []) ∨ ∃ a' g, a = some a' ∧ lo ≤ g ∧ g < hi ∧ v = .slice (some ⟨g, 0, none⟩) l.length (l.length + 1) ∧ w.heap[g]? = some (.cells (l.flatMap bCells ++ ([.int .i64 (-7), .int .i64 7] : List Value)).toArray 44 (0, 0))
def lnPorts (lo hi : Nat) (w : World) (a : Option Addr) (v : Value) (l : List DPort) : Prop :=
  (a = none ∧ v = .slice none 0 0 ∧ l = []) ∨ ∃ a' g, a = some a' ∧ lo ≤ g ∧ g < hi ∧ v = .slice (some ⟨g, 0, none⟩) l.length (l.length + 1) ∧ w.heap[g]? = some (.cells (l.flatMap tCells ++ ([.int .i64 (-7), .int .i64 0, .int .i64 0] : List Value)).toArray 50 (0, 0))
theorem lnBlks.heap {lo hi : Nat} {w w' : World} {a : Option Addr} {v : Value} {l : List DBlk} (h : lnBlks lo hi w a v l) (hb : ∀ j, lo ≤ j → j < hi → w'.heap[j]? = w.heap[j]?) : lnBlks lo hi w' a v l := by
  rcases h with h | ⟨a', g, h1, h2, h3, h4, h5⟩
  · exact Or.inl h
  · exact Or.inr ⟨a', g, h1, h2, h3, h4, by rw [hb g h2 h3]; exact h5⟩
theorem lnPorts.heap {lo hi : Nat} {w w' : World} {a : Option Addr} {v : Value} {l : List DPort} (h : lnPorts lo hi w a v l) (hb : ∀ j, lo ≤ j → j < hi → w'.heap[j]? = w.heap[j]?) : lnPorts lo hi w' a v l := by
  rcases h with h | ⟨a', g, h1, h2, h3, h4, h5⟩
  · exact Or.inl h
  · exact Or.inr ⟨a', g, h1, h2, h3, h4, by rw [hb g h2 h3]; exact h5⟩
theorem nil_of {α : Type} {B sz by' : Nat} {w : World} {E : Nat → World → Nat → Nat → α → Prop} {l : List α} (h : RdSl B w sz by' E none l) : l = [] := by
  cases l with
  | nil => rfl
  | cons x t => obtain ⟨b, off, he, _⟩ := h.2 0 x rfl; cases he

theorem lentBlks_any (l : List DBlk) (a : Option Addr) (cap B : Nat) (w : World) (hr : rdBlks B w a l) :
    Calls Try.prog 69 #[.slice a l.length cap] w fun e w' => ∃ v, e = .returned v ∧ lnBlks w.heap.size w'.heap.size w' a v l ∧ Below w.heap.size w w' := by
  cases a with
  | none =>
    have e := nil_of hr
    subst e
    refine (lentNil_blk cap w).mono ?_
    rintro e w' ⟨rfl, rfl⟩
    exact ⟨_, rfl, Or.inl ⟨rfl, rfl, rfl⟩, Below.refl _ _⟩
  | some a =>
    refine (lent_blk l a cap B w hr).mono ?_
    rintro e w' ⟨rfl, rfl⟩
    exact ⟨_, rfl, Or.inr ⟨a, w.heap.size, rfl, Nat.le_refl _, by simp, rfl, alloc_heap _ _⟩, Ext.alloc (Below.refl _ _) _⟩
theorem lentPorts_any (l : List DPort) (a : Option Addr) (cap B : Nat) (w : World) (hr : rdPorts B w a l) :
    Calls Try.prog 50 #[.slice a l.length cap] w fun e w' => ∃ v, e = .returned v ∧ lnPorts w.heap.size w'.heap.size w' a v l ∧ Below w.heap.size w w' := by
  cases a with
  | none =>
    have e := nil_of hr
    subst e
    refine (lentNil_prt cap w).mono ?_
    rintro e w' ⟨rfl, rfl⟩
    exact ⟨_, rfl, Or.inl ⟨rfl, rfl, rfl⟩, Below.refl _ _⟩
  | some a =>
    refine (lent_prt l a cap B w hr).mono ?_
    rintro e w' ⟨rfl, rfl⟩
    exact ⟨_, rfl, Or.inr ⟨a, w.heap.size, rfl, Nat.le_refl _, by simp, rfl, alloc_heap _ _⟩, Ext.alloc (Below.refl _ _) _⟩
theorem backBlks_any (l : List DBlk) (a : Option Addr) (v : Value) (cap B lo hi : Nat) (w : World) (hr : rdBlks B w a l) (hB : B ≤ lo) (hl : lnBlks lo hi w a v l) :
    Calls Try.prog 73 #[v, .slice a l.length cap] w fun e w' => e = .returned (.bool true) ∧ Only lo hi w w' := by
  rcases hl with ⟨rfl, rfl, rfl⟩ | ⟨a', g, rfl, h2, h3, rfl, h5⟩
  · refine (backNil_blk 0 cap w).mono ?_
    rintro e w' ⟨rfl, rfl⟩
    exact ⟨rfl, Only.refl _ _ _⟩
  · refine (back_blk l a' cap B g w hr (by omega) h5).mono ?_
    rintro e w' ⟨rfl, h⟩
    exact ⟨rfl, h.mono h2 (by omega)⟩
theorem backPorts_any (l : List DPort) (a : Option Addr) (v : Value) (cap B lo hi : Nat) (w : World) (hr : rdPorts B w a l) (hB : B ≤ lo) (hl : lnPorts lo hi w a v l) :
    Calls Try.prog 57 #[v, .slice a l.length cap] w fun e w' => e = .returned (.bool true) ∧ Only lo hi w w' := by
  rcases hl with ⟨rfl, rfl, rfl⟩ | ⟨a', g, rfl, h2, h3, rfl, h5⟩
  · refine (backNil_prt 0 cap w).mono ?_
    rintro e w' ⟨rfl, rfl⟩
    exact ⟨rfl, Only.refl _ _ _⟩
  · refine (back_prt l a' cap B g w hr (by omega) h5).mono ?_
    rintro e w' ⟨rfl, h⟩
    exact ⟨rfl, h.mono h2 (by omega)⟩
end Go.Proofs.Ytmkjlhplgcifiaa
