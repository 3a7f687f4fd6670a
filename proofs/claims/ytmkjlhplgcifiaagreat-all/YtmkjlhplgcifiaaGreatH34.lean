/-
  Lists of structs that hold lists: what it means that one is lent, and how it stays so.
-/
import Derived.Test.YtmkjlhplgcifiaaGreatH33
namespace Go.Proofs.YtmkjlhplgcifiaaGreat
open Go.ChangeShapes Go.WideShapes Go.ChangeAt Go.RowKit
set_option linter.unusedVariables false
set_option linter.unusedSimpArgs false
attribute [local simp] World.cell?_grow World.cell?_alloc_there
attribute [local go_sem] World.cell?_grow World.cell?_alloc_there eqg_blk std_blk eqg_pod std_pod eqg_sel std_sel eqg_prt std_prt
attribute [local go_sem ↓] eql_blk eql_sel neq_sel eql_prt eql_pod met_in1 met_in2 met_re1 met_re2
def sets (w : World) (g o : Nat) : List Value → World
  | [] => w
  | v :: r => sets (w.setCell ⟨g, o, none⟩ v) g (o + 1) r
theorem sets_size (w : World) (g o : Nat) (vs : List Value) : (sets w g o vs).heap.size = w.heap.size := by
  induction vs generalizing w o with
  | nil => rfl
  | cons v r ih => rw [sets, ih]; simp [World.setCell]
theorem sets_block (w : World) (g o : Nat) (vs : List Value) (k : Nat) (h : k ≠ g) : (sets w g o vs).heap[k]? = w.heap[k]? := by
  induction vs generalizing w o with
  | nil => rfl
  | cons v r ih => rw [sets, ih, Below.heap_setCell _ _ _ _ h]
theorem sets_own (w : World) (g o n : Nat) (vs : List Value) (h : own w g n) : own (sets w g o vs) g n := by
  induction vs generalizing w o with
  | nil => exact h
  | cons v r ih => exact ih _ _ (own_set h _ _)
theorem sets_before (w : World) (g o : Nat) (vs : List Value) (p : Nat) (hp : p < o) : (sets w g o vs).cell? ⟨g, p, none⟩ = w.cell? ⟨g, p, none⟩ := by
  induction vs generalizing w o with
  | nil => rfl
  | cons v r ih => rw [sets, ih _ _ (by omega), World.cell?_setCell_other _ _ _ _ (fun h => by cases h; omega)]
theorem sets_behind (w : World) (g o : Nat) (vs : List Value) (p : Nat) (hp : o + vs.length ≤ p) : (sets w g o vs).cell? ⟨g, p, none⟩ = w.cell? ⟨g, p, none⟩ := by
  induction vs generalizing w o with
  | nil => rfl
  | cons v r ih =>
    simp only [List.length_cons] at hp
    rw [sets, ih _ _ (by omega), World.cell?_setCell_other _ _ _ _ (fun h => by cases h; omega)]
theorem sets_at (w : World) (g o n : Nat) (vs : List Value) (i : Nat) (v : Value) (hv : vs[i]? = some v) (hn : o + vs.length ≤ n) (h : own w g n) : (sets w g o vs).cell? ⟨g, o + i, none⟩ = some v := by
  induction vs generalizing w o i with
  | nil => simp at hv
  | cons u r ih =>
    simp only [List.length_cons] at hn
    cases i with
    | zero =>
      simp at hv
      subst hv
      rw [sets, sets_before _ _ _ _ _ (by omega)]
      obtain ⟨x, hx⟩ := h.1 o (by omega)
      exact World.cell?_setCell_same w _ _ hx
    | succ i =>
      have := ih (w.setCell ⟨g, o, none⟩ u) (o + 1) i (by simpa using hv) (by omega) (own_set h _ _)
      rw [sets]
      rwa [show o + (i + 1) = o + 1 + i by omega]
theorem sets_only (w : World) (g o : Nat) (vs : List Value) : Only g (g + 1) w (sets w g o vs) := by
  induction vs generalizing w o with
  | nil => exact Only.refl _ _ _
  | cons v r ih =>
    have h1 : Only g (g + 1) w (w.setCell ⟨g, o, none⟩ v) := (Only.refl g (g + 1) w).setCell (p := ⟨g, o, none⟩) (Nat.le_refl _) (Nat.lt_succ_self _) v
    exact h1.trans (ih _ _)
def subA (w : World) (a : Option Addr) (o : Nat) : Option Addr :=
  match a with
  | none => none
  | some a => match w.cell? ⟨a.block, a.off + o, none⟩ with
    | some (.slice s _ _) => s
    | _ => none
theorem subA_eq {w : World} {b off o n c : Nat} {s : Option Addr} (h : w.cell? ⟨b, off + o, none⟩ = some (.slice s n c)) : subA w (some ⟨b, off, none⟩) o = s := by
  simp only [subA, h]
def LnL (sz n : Nat) (E : World → Nat → Nat → Nat → Prop) (w : World) (g : Nat) (f : Nat → Nat) (k : Nat) : Prop :=
  own w g ((n + 1) * sz) ∧ g < f 0 ∧ (∀ i, i < k → f i ≤ f (i + 1)) ∧ ∀ i, i < k → E w (f i) (f (i + 1)) i
def Stab (sz g : Nat) (E : World → Nat → Nat → Nat → Prop) : Prop :=
  ∀ w w' lo hi i, (∀ o, i * sz ≤ o → o < (i + 1) * sz → w'.cell? ⟨g, o, none⟩ = w.cell? ⟨g, o, none⟩) → (∀ j, lo ≤ j → j < hi → w'.heap[j]? = w.heap[j]?) → E w lo hi i → E w' lo hi i
theorem mono_le {f : Nat → Nat} {k : Nat} (h : ∀ i, i < k → f i ≤ f (i + 1)) : ∀ i j, i ≤ j → j ≤ k → f i ≤ f j := by
  intro i j hij
  induction j with
  | zero => intro _; rw [show i = 0 by omega]; exact Nat.le_refl _
  | succ j ih =>
    intro hk
    rcases Nat.lt_or_ge j i with h1 | h1
    · rw [show i = j + 1 by omega]; exact Nat.le_refl _
    · exact Nat.le_trans (ih h1 (by omega)) (h j (by omega))
theorem LnL.step {sz n : Nat} {E : World → Nat → Nat → Nat → Prop} {w w2 : World} {g : Nat} {f : Nat → Nat} {k : Nat} (hE : Stab sz g E) (h : LnL sz n E w g f k) (hf : f k = w.heap.size)
    (ho : own w2 g ((n + 1) * sz)) (hc : ∀ o, o < k * sz → w2.cell? ⟨g, o, none⟩ = w.cell? ⟨g, o, none⟩) (hb : ∀ j, j < w.heap.size → j ≠ g → w2.heap[j]? = w.heap[j]?) (hs : w.heap.size ≤ w2.heap.size)
    (hn : E w2 w.heap.size w2.heap.size k) : ∃ f', LnL sz n E w2 g f' (k + 1) ∧ f' (k + 1) = w2.heap.size := by
  obtain ⟨h1, h2, h3, h4⟩ := h
  have hm := mono_le h3
  refine ⟨fun i => if i ≤ k then f i else w2.heap.size, ⟨ho, ?_, fun i hi => ?_, fun i hi => ?_⟩, if_neg (by omega)⟩
  · simp; exact h2
  · rcases Nat.lt_or_ge i k with hk | hk
    · simp only [if_pos (Nat.le_of_lt hk), if_pos (Nat.succ_le_of_lt hk)]; exact h3 i hk
    · have : i = k := by omega
      subst this
      simp only [Nat.le_refl, if_true]
      rw [if_neg (by omega), hf]; exact hs
  · rcases Nat.lt_or_ge i k with hk | hk
    · simp only [if_pos (Nat.le_of_lt hk), if_pos (Nat.succ_le_of_lt hk)]
      refine hE w w2 _ _ i (fun o h5 h6 => hc o ?_) (fun j h5 h6 => hb j ?_ ?_) (h4 i hk)
      · have : (i + 1) * sz ≤ k * sz := Nat.mul_le_mul_right _ (by omega)
        omega
      · have := hm (i + 1) k (by omega) (Nat.le_refl _)
        omega
      · have := hm 0 i (by omega) (by omega)
        omega
    · have : i = k := by omega
      subst this
      simp only [Nat.le_refl, if_true]
      rw [if_neg (by omega), hf]; exact hn
theorem LnL.to {sz n : Nat} {E : World → Nat → Nat → Nat → Prop} {w w2 : World} {g : Nat} {f : Nat → Nat} {k : Nat} (hE : Stab sz g E) (h : LnL sz n E w g f k) (hg : w2.heap[g]? = w.heap[g]?) (hb : ∀ j, g < j → j < f k → w2.heap[j]? = w.heap[j]?) : LnL sz n E w2 g f k := by
  obtain ⟨h1, h2, h3, h4⟩ := h
  have hm := mono_le h3
  refine ⟨own_heap h1 hg, h2, h3, fun i hi => hE w w2 _ _ i (fun o _ _ => cell_heap hg) (fun j h5 h6 => hb j ?_ ?_) (h4 i hi)⟩
  · have := hm 0 i (by omega) (by omega); omega
  · have := hm (i + 1) k (by omega) (Nat.le_refl _); omega
def lnBlks (lo hi : Nat) (w : World) (a : Option Addr) (v : Value) (l : List DBlk) : Prop :=
  (a = none ∧ v = .slice none 0 0 ∧ l = []) ∨ ∃ a' g, a = some a' ∧ lo ≤ g ∧ g < hi ∧ v = .slice (some ⟨g, 0, none⟩) l.length (l.length + 1) ∧ w.heap[g]? = some (.cells (l.flatMap bCells ++ ([.int .i64 (-7), .int .i64 7] : List Value)).toArray 47 (0, 0))
def lnPorts (lo hi : Nat) (w : World) (a : Option Addr) (v : Value) (l : List DPort) : Prop :=
  (a = none ∧ v = .slice none 0 0 ∧ l = []) ∨ ∃ a' g, a = some a' ∧ lo ≤ g ∧ g < hi ∧ v = .slice (some ⟨g, 0, none⟩) l.length (l.length + 1) ∧ w.heap[g]? = some (.cells (l.flatMap tCells ++ ([.int .i64 (-7), .int .i64 0, .int .i64 0] : List Value)).toArray 109 (0, 0))
theorem lnBlks.heap {lo hi : Nat} {w w' : World} {a : Option Addr} {v : Value} {l : List DBlk} (h : lnBlks lo hi w a v l) (hb : ∀ j, lo ≤ j → j < hi → w'.heap[j]? = w.heap[j]?) : lnBlks lo hi w' a v l := by
  rcases h with h | ⟨a', g, h1, h2, h3, h4, h5⟩
  · exact Or.inl h
  · exact Or.inr ⟨a', g, h1, h2, h3, h4, by rw [hb g h2 h3]; exact h5⟩
theorem lnPorts.heap {lo hi : Nat} {w w' : World} {a : Option Addr} {v : Value} {l : List DPort} (h : lnPorts lo hi w a v l) (hb : ∀ j, lo ≤ j → j < hi → w'.heap[j]? = w.heap[j]?) : lnPorts lo hi w' a v l := by
  rcases h with h | ⟨a', g, h1, h2, h3, h4, h5⟩
  · exact Or.inl h
  · exact Or.inr ⟨a', g, h1, h2, h3, h4, by rw [hb g h2 h3]; exact h5⟩
theorem nil_of {α : Type} {B sz by' : Nat} {w : World} {E : Nat → World → Nat → Nat → α → Prop} {l : List α} (h : RdSl B w sz by' E none l) : l = [] := by
  cases l with
  | nil => rfl
  | cons x t => obtain ⟨b, off, he, _⟩ := h.2 0 x rfl; cases he
theorem lentBlks_any (l : List DBlk) (a : Option Addr) (cap B : Nat) (w : World) (hr : rdBlks B w a l) :
    Calls Tryz.prog 169 #[.slice a l.length cap] w fun e w' => ∃ v, e = .returned v ∧ lnBlks w.heap.size w'.heap.size w' a v l ∧ Below w.heap.size w w' := by
  cases a with
  | none =>
    have e := nil_of hr
    subst e
    refine (lentNil_blk cap w).mono ?_
    rintro e w' ⟨rfl, rfl⟩
    exact ⟨_, rfl, Or.inl ⟨rfl, rfl, rfl⟩, Below.refl _ _⟩
  | some a =>
    refine (lent_blk l a cap B w hr).mono ?_
    rintro e w' ⟨rfl, rfl⟩
    exact ⟨_, rfl, Or.inr ⟨a, w.heap.size, rfl, Nat.le_refl _, by simp, rfl, alloc_heap _ _⟩, Ext.alloc (Below.refl _ _) _⟩
theorem lentPorts_any (l : List DPort) (a : Option Addr) (cap B : Nat) (w : World) (hr : rdPorts B w a l) :
    Calls Tryz.prog 146 #[.slice a l.length cap] w fun e w' => ∃ v, e = .returned v ∧ lnPorts w.heap.size w'.heap.size w' a v l ∧ Below w.heap.size w w' := by
  cases a with
  | none =>
    have e := nil_of hr
    subst e
    refine (lentNil_prt cap w).mono ?_
    rintro e w' ⟨rfl, rfl⟩
    exact ⟨_, rfl, Or.inl ⟨rfl, rfl, rfl⟩, Below.refl _ _⟩
  | some a =>
    refine (lent_prt l a cap B w hr).mono ?_
    rintro e w' ⟨rfl, rfl⟩
    exact ⟨_, rfl, Or.inr ⟨a, w.heap.size, rfl, Nat.le_refl _, by simp, rfl, alloc_heap _ _⟩, Ext.alloc (Below.refl _ _) _⟩
theorem backBlks_any (l : List DBlk) (a : Option Addr) (v : Value) (cap B lo hi : Nat) (w : World) (hr : rdBlks B w a l) (hB : B ≤ lo) (hl : lnBlks lo hi w a v l) :
    Calls Tryz.prog 170 #[v, .slice a l.length cap] w fun e w' => e = .returned (.bool true) ∧ Only lo hi w w' := by
  rcases hl with ⟨rfl, rfl, rfl⟩ | ⟨a', g, rfl, h2, h3, rfl, h5⟩
  · refine (backNil_blk 0 cap w).mono ?_
    rintro e w' ⟨rfl, rfl⟩
    exact ⟨rfl, Only.refl _ _ _⟩
  · refine (back_blk l a' cap B g w hr (by omega) h5).mono ?_
    rintro e w' ⟨rfl, h⟩
    exact ⟨rfl, h.mono h2 (by omega)⟩
theorem backPorts_any (l : List DPort) (a : Option Addr) (v : Value) (cap B lo hi : Nat) (w : World) (hr : rdPorts B w a l) (hB : B ≤ lo) (hl : lnPorts lo hi w a v l) :
    Calls Tryz.prog 148 #[v, .slice a l.length cap] w fun e w' => e = .returned (.bool true) ∧ Only lo hi w w' := by
  rcases hl with ⟨rfl, rfl, rfl⟩ | ⟨a', g, rfl, h2, h3, rfl, h5⟩
  · refine (backNil_prt 0 cap w).mono ?_
    rintro e w' ⟨rfl, rfl⟩
    exact ⟨rfl, Only.refl _ _ _⟩
  · refine (back_prt l a' cap B g w hr (by omega) h5).mono ?_
    rintro e w' ⟨rfl, h⟩
    exact ⟨rfl, h.mono h2 (by omega)⟩
theorem lnBlks.sl {lo hi : Nat} {w : World} {a : Option Addr} {v : Value} {l : List DBlk} (h : lnBlks lo hi w a v l) : ∃ s n c, v = .slice s n c := by
  rcases h with ⟨_, rfl, _⟩ | ⟨a', g, _, _, _, rfl, _⟩
  · exact ⟨_, _, _, rfl⟩
  · exact ⟨_, _, _, rfl⟩
theorem lnPorts.sl {lo hi : Nat} {w : World} {a : Option Addr} {v : Value} {l : List DPort} (h : lnPorts lo hi w a v l) : ∃ s n c, v = .slice s n c := by
  rcases h with ⟨_, rfl, _⟩ | ⟨a', g, _, _, _, rfl, _⟩
  · exact ⟨_, _, _, rfl⟩
  · exact ⟨_, _, _, rfl⟩
def eLnPeer (w0 : World) (a : Option Addr) (l : List DPeer) (g : Nat) (w : World) (lo hi i : Nat) : Prop :=
  ∀ x, l[i]? = some x → w.cell? ⟨g, i * 7, none⟩ = some (.int .i64 x.kind) ∧ w.cell? ⟨g, i * 7 + 1, none⟩ = some (.int .i64 x.need) ∧ w.cell? ⟨g, i * 7 + 2, none⟩ = some (.int .i64 x.ban) ∧ w.cell? ⟨g, i * 7 + 3, none⟩ = some (.int .i64 x.spaces) ∧
    w.cell? ⟨g, i * 7 + 4, none⟩ = some (.int .i64 x.base) ∧ w.cell? ⟨g, i * 7 + 5, none⟩ = some (.int .i64 x.bits) ∧ ∃ s, w.cell? ⟨g, i * 7 + 6, none⟩ = some s ∧ lnBlks lo hi w (subA w0 a (i * 7 + 6)) s x.exc
theorem eLnPeer.stab (w0 : World) (a : Option Addr) (l : List DPeer) (g : Nat) : Stab 7 g (eLnPeer w0 a l g) := by
  intro w w' lo hi i hc hb h x hx
  obtain ⟨h0, h1, h2, h3, h4, h5, s, h6, h7⟩ := h x hx
  refine ⟨?_, ?_, ?_, ?_, ?_, ?_, s, ?_, h7.heap hb⟩
  · rw [hc _ (by omega) (by omega)]; exact h0
  · rw [hc _ (by omega) (by omega)]; exact h1
  · rw [hc _ (by omega) (by omega)]; exact h2
  · rw [hc _ (by omega) (by omega)]; exact h3
  · rw [hc _ (by omega) (by omega)]; exact h4
  · rw [hc _ (by omega) (by omega)]; exact h5
  · rw [hc _ (by omega) (by omega)]; exact h6
def lnPeers (lo hi : Nat) (w0 w : World) (a : Option Addr) (v : Value) (l : List DPeer) : Prop :=
  (a = none ∧ v = .slice none 0 0 ∧ l = []) ∨ ∃ a' g f, a = some a' ∧ lo ≤ g ∧ g < hi ∧ v = .slice (some ⟨g, 0, none⟩) l.length (l.length + 1) ∧ LnL 7 l.length (eLnPeer w0 a l g) w g f l.length ∧ f l.length ≤ hi ∧ w.cell? ⟨g, l.length * 7, none⟩ = some (.int .i64 (-7))
theorem lnPeers.sl {lo hi : Nat} {w0 w : World} {a : Option Addr} {v : Value} {l : List DPeer} (h : lnPeers lo hi w0 w a v l) : ∃ s n c, v = .slice s n c := by
  rcases h with ⟨_, rfl, _⟩ | ⟨a', g, f, _, _, _, rfl, _⟩
  · exact ⟨_, _, _, rfl⟩
  · exact ⟨_, _, _, rfl⟩
theorem und_peer : Tryz.prog.underlying 61 = some (.slice 69) := Tryz.underlying61
theorem inf_peer : ∃ i z, Tryz.prog.info? 69 = some i ∧ i.zero = some z ∧ i.size = 7 ∧ i.bytes = 72 := by
  have h0 : (Tryz.prog.info? 69).isSome = true := by kernel_rfl
  have h1 : ((Tryz.prog.info? 69).bind (·.zero)).isSome = true := by kernel_rfl
  have h2 : (Tryz.prog.info? 69).map (·.bytes) = some 72 := by kernel_rfl
  have h3 : (Tryz.prog.info? 69).map (·.size) = some 7 := by kernel_rfl
  obtain ⟨i, hi⟩ := Option.isSome_iff_exists.1 h0
  obtain ⟨z, hz⟩ := Option.isSome_iff_exists.1 h1
  rw [hi] at h2 h3 hz
  exact ⟨i, z, hi, by simpa using hz, by simpa using h3, by simpa using h2⟩
theorem make_peer (n : Nat) (w : World) (h : n * 72 ≤ 140737488351232) : ∃ Z : Array Value, Z.size = (n + 1) * 7 ∧
    (Instr.makeSlice 61 (.int .i64 ((n : Int) + 1)) (.int .i64 ((n : Int) + 1))).run Tryz.prog w = .ok (.slice (some ⟨w.heap.size, 0, none⟩) (n + 1) (n + 1)) (w.alloc (.cells Z 69)) := by
  obtain ⟨i, z, h1, h2, h3, h4⟩ := inf_peer
  have := run_make (P := Tryz.prog) w 61 69 i _ und_peer h1 h2 .i64 .i64 ((n : Int) + 1) ((n : Int) + 1) (by omega) (by omega) (by rw [h4]; omega) (by omega)
  have e : ((n : Int) + 1).toNat = n + 1 := by omega
  rw [h3, e] at this
  exact ⟨_, size_madeCells _ _, this⟩
set_option maxRecDepth 100000 in
set_option maxHeartbeats 4000000 in
theorem lentPeers_some (l : List DPeer) (a : Addr) (cap : Nat) (w : World) (hr : rdPeers w.heap.size w (some a) l) :
    Calls Tryz.prog 145 #[.slice (some a) l.length cap] w fun e w' => ∃ v, e = .returned v ∧ lnPeers w.heap.size w'.heap.size w w' (some a) v l ∧ Below w.heap.size w w' := by
  have HR := hid hr
  have hlen := hr.1
  clear hr
  obtain ⟨Z, hZ, hmk⟩ := make_peer l.length w hlen
  have HO := hid (own_of (alloc_heap w (.cells Z 69)) hZ)
  have hq : ∀ w, (binOp .eql 61 (.slice (some a) l.length cap) (.slice none 0 0)).run Tryz.prog w = .ok (.bool false) w := fun w => Lib.run_eql_slice_nil w 61 69 _ _ _ _ _ und_peer
  clear hZ
  go_enter Tryz.func145, Tryz.ntmps145
  go_wp2
  obtain ⟨g, hg⟩ : ∃ g, g = w.heap.size := ⟨_, rfl⟩
  go_loopw [4] (fun i wr => ∃ (k : Nat) (f : Nat → Nat), k ≤ l.length ∧ i = .int .i64 k ∧ LnL 7 l.length (eLnPeer w (some a) l w.heap.size) wr w.heap.size f k ∧ f k = wr.heap.size ∧ Below w.heap.size w wr) (fun i _ => l.length - (intOf i).toNat)
  case atStart => exact ⟨0, fun _ => w.heap.size + 1, Nat.zero_le _, rfl, ⟨HO.out, Nat.lt_succ_self _, fun i hi => absurd hi (Nat.not_lt_zero _), fun i hi => absurd hi (Nat.not_lt_zero _)⟩, by simp, Ext.alloc (Below.refl _ _) _⟩
  case round =>
    obtain ⟨k, f, hk, rfl, hL, hf, hbw⟩ := hrel
    have HL := hid hL
    have HF := hid hf
    have hfr := hL.1.2
    by_cases hlt : k < l.length
    · obtain ⟨x, hxk⟩ : ∃ x, l[k]? = some x := ⟨l[k], by simp [hlt]⟩
      have HX := hid hxk
      clear hxk
      obtain ⟨b, off, he, hb, c0, c1, c2, c3, c4, c5, ea, ec, c6, hre⟩ := HR.out.2 k x HX.out
      cases he
      have HE := hid hre
      have HC6 := hid c6
      have d0 := cell_to c0 hbw
      have d1 := cell_to c1 hbw
      have d2 := cell_to c2 hbw
      have d3 := cell_to c3 hbw
      have d4 := cell_to c4 hbw
      have d5 := cell_to c5 hbw
      have d6 := cell_to c6 hbw
      obtain ⟨z0, e0⟩ := hL.1.1 (k * 7) (by omega)
      obtain ⟨z1, e1⟩ := hL.1.1 (k * 7 + 1) (by omega)
      obtain ⟨z2, e2⟩ := hL.1.1 (k * 7 + 2) (by omega)
      obtain ⟨z3, e3⟩ := hL.1.1 (k * 7 + 3) (by omega)
      obtain ⟨z4, e4⟩ := hL.1.1 (k * 7 + 4) (by omega)
      obtain ⟨z5, e5⟩ := hL.1.1 (k * 7 + 5) (by omega)
      obtain ⟨z6, e6⟩ := hL.1.1 (k * 7 + 6) (by omega)
      clear hL hf c0 c1 c2 c3 c4 c5 c6 hre
      have hbg : ¬ b = w.heap.size := by omega
      have hgb : ¬ w.heap.size = b := by omega
      go_wp2_with fail
      generalize hW : (((((((wr.setCell ⟨w.heap.size, k * 7, none⟩ (.int .i64 x.kind)).setCell ⟨w.heap.size, k * 7 + 1, none⟩ (.int .i64 x.need)).setCell ⟨w.heap.size, k * 7 + 2, none⟩ (.int .i64 x.ban)).setCell ⟨w.heap.size, k * 7 + 3, none⟩ (.int .i64 x.spaces)).setCell ⟨w.heap.size, k * 7 + 4, none⟩ (.int .i64 x.base)).setCell ⟨w.heap.size, k * 7 + 5, none⟩ (.int .i64 x.bits)).setCell ⟨w.heap.size, k * 7 + 6, none⟩ (.slice ea x.exc.length ec)) = W1
      have hW2 : W1 = sets wr w.heap.size (k * 7) [.int .i64 x.kind, .int .i64 x.need, .int .i64 x.ban, .int .i64 x.spaces, .int .i64 x.base, .int .i64 x.bits, .slice ea x.exc.length ec] := hW.symm
      clear hW
      have hgs : w.heap.size < wr.heap.size := by
        have := HL.out.2.1
        have := mono_le HL.out.2.2.1 0 k (Nat.zero_le _) (Nat.le_refl _)
        have := HF.out
        omega
      have hsz : W1.heap.size = wr.heap.size := by rw [hW2, sets_size]
      have hgW : w.heap.size < W1.heap.size := by omega
      have HOW := hid (show own W1 w.heap.size ((l.length + 1) * 7) by rw [hW2]; exact sets_own _ _ _ _ _ HL.out.1)
      have cW := hid (show ∀ r v, ([.int .i64 x.kind, .int .i64 x.need, .int .i64 x.ban, .int .i64 x.spaces, .int .i64 x.base, .int .i64 x.bits, .slice ea x.exc.length ec] : List Value)[r]? = some v → W1.cell? ⟨w.heap.size, k * 7 + r, none⟩ = some v from fun r v hv => by rw [hW2]; exact sets_at _ _ _ _ _ _ _ hv (by simp; omega) HL.out.1)
      have HWb := hid (show ∀ o, o < k * 7 → W1.cell? ⟨w.heap.size, o, none⟩ = wr.cell? ⟨w.heap.size, o, none⟩ from fun o ho => by rw [hW2]; exact sets_before _ _ _ _ _ ho)
      have HWh := hid (show ∀ j, j ≠ w.heap.size → W1.heap[j]? = wr.heap[j]? from fun j hj => by rw [hW2]; exact sets_block _ _ _ _ _ hj)
      have HBW := hid (show Below w.heap.size w W1 from hbw.trans (by rw [hW2]; exact (sets_only wr w.heap.size (k * 7) _).below (Nat.le_refl _) (Nat.le_of_lt hgs)))
      clear hW2 d0 d1 d2 d3 d4 d5 d6 e0 e1 e2 e3 e4 e5 e6 hfr
      refine (lentBlks_any x.exc ea ec w.heap.size W1 (rdBlks.ext HBW.out (Nat.le_refl _) HE.out)).mono ?_
      rintro e w1 ⟨v', rfl, hln, hb1⟩
      obtain ⟨va, vn, vc, hve⟩ := hln.sl
      subst hve
      have HLN := hid hln
      have HB1 := hid hb1
      have t6 : w1.cell? ⟨w.heap.size, k * 7 + 6, none⟩ = some (.slice ea x.exc.length ec) := cell_to (cW.out 6 _ rfl) hb1
      have HO1 := hid (own_heap HOW.out (hb1.block _ hgW))
      have hfr := HO1.out.2
      have HST := hid (show ∃ f', LnL 7 l.length (eLnPeer w (some ⟨b, off, none⟩) l w.heap.size) (w1.setCell ⟨w.heap.size, k * 7 + 6, none⟩ (.slice va vn vc)) w.heap.size f' (k + 1) ∧ f' (k + 1) = (w1.setCell ⟨w.heap.size, k * 7 + 6, none⟩ (.slice va vn vc)).heap.size from by
        have hs2 : (w1.setCell ⟨w.heap.size, k * 7 + 6, none⟩ (.slice va vn vc)).heap.size = w1.heap.size := by simp [World.setCell]
        refine LnL.step (eLnPeer.stab _ _ _ _) HL.out HF.out (own_set HO1.out _ _) (fun o ho => ?_) (fun j hj hn => ?_) ?_ ?_
        · rw [World.cell?_setCell_other _ _ _ _ (fun h => by cases h; omega), HB1.out.cell (p := ⟨w.heap.size, o, none⟩) hgW]
          exact HWb.out o ho
        · rw [Below.heap_setCell _ _ _ _ hn, HB1.out.block j (by omega)]
          exact HWh.out j hn
        · rw [hs2]; have := HB1.out.size; omega
        · intro y hy
          rw [HX.out] at hy
          cases hy
          refine ⟨?_, ?_, ?_, ?_, ?_, ?_, _, World.cell?_setCell_same w1 _ _ t6, ?_⟩
          · rw [World.cell?_setCell_other _ _ _ _ (fun h => by simp at h), HB1.out.cell (p := ⟨w.heap.size, _, none⟩) hgW]; exact cW.out 0 _ rfl
          · rw [World.cell?_setCell_other _ _ _ _ (fun h => by simp at h), HB1.out.cell (p := ⟨w.heap.size, _, none⟩) hgW]; exact cW.out 1 _ rfl
          · rw [World.cell?_setCell_other _ _ _ _ (fun h => by simp at h), HB1.out.cell (p := ⟨w.heap.size, _, none⟩) hgW]; exact cW.out 2 _ rfl
          · rw [World.cell?_setCell_other _ _ _ _ (fun h => by simp at h), HB1.out.cell (p := ⟨w.heap.size, _, none⟩) hgW]; exact cW.out 3 _ rfl
          · rw [World.cell?_setCell_other _ _ _ _ (fun h => by simp at h), HB1.out.cell (p := ⟨w.heap.size, _, none⟩) hgW]; exact cW.out 4 _ rfl
          · rw [World.cell?_setCell_other _ _ _ _ (fun h => by simp at h), HB1.out.cell (p := ⟨w.heap.size, _, none⟩) hgW]; exact cW.out 5 _ rfl
          · rw [hs2, ← hsz, subA_eq (n := x.exc.length) (c := ec) (by have := HC6.out; rwa [Nat.add_assoc] at this)]
            exact HLN.out.heap fun j h1 h2 => Below.heap_setCell _ _ _ _ (by show j ≠ w.heap.size; omega))
      have HBF := hid (show Below w.heap.size w (w1.setCell ⟨w.heap.size, k * 7 + 6, none⟩ (.slice va vn vc)) from (HBW.out.trans (hb1.mono (by omega))).setCell (Nat.le_refl _) _)
      clear hln hb1
      go_wp2
      obtain ⟨f', hf1, hf2⟩ := HST.out
      exact ⟨⟨k + 1, f', by omega, by go_num, hf1, hf2, HBF.out⟩, by simp [intOf]; omega⟩
    · have e : k = l.length := by omega
      subst e
      obtain ⟨z0, e0⟩ := hL.1.1 (l.length * 7) (by omega)
      have hgs : w.heap.size < wr.heap.size := by
        have := HL.out.2.1
        have := mono_le HL.out.2.2.1 0 l.length (Nat.zero_le _) (Nat.le_refl _)
        have := HF.out
        omega
      have HLE := hid (show LnL 7 l.length (eLnPeer w (some a) l w.heap.size) (wr.setCell ⟨w.heap.size, l.length * 7, none⟩ (.int .i64 (-7))) w.heap.size f l.length from by
        obtain ⟨h1, h2, h3, h4⟩ := HL.out
        have hm := mono_le h3
        refine ⟨own_set h1 _ _, h2, h3, fun i hi => eLnPeer.stab w (some a) l w.heap.size wr _ _ _ i (fun o h5 h6 => ?_) (fun j h5 h6 => ?_) (h4 i hi)⟩
        · exact World.cell?_setCell_other _ _ _ _ (fun h => by cases h; omega)
        · exact Below.heap_setCell _ _ _ _ (by have := hm 0 i (by omega) (by omega); show j ≠ w.heap.size; omega))
      clear hL hf
      go_wp2
      go_ret
      refine ⟨_, rfl, Or.inr ⟨a, w.heap.size, f, rfl, Nat.le_refl _, ?_, rfl, HLE.out, ?_, World.cell?_setCell_same wr _ _ e0⟩, hbw.setCell (Nat.le_refl _) _⟩
      · simp [World.setCell]; exact hgs
      · rw [HF.out]; simp [World.setCell]
theorem lentPeers_nil (cap : Nat) (w : World) :
    Calls Tryz.prog 145 #[.slice none 0 cap] w fun e w' => e = .returned (.slice none 0 0) ∧ w' = w := by
  have hq : ∀ w, (binOp .eql 61 (.slice none 0 cap) (.slice none 0 0)).run Tryz.prog w = .ok (.bool true) w := fun w => Lib.run_eql_slice_nil w 61 69 _ _ _ _ _ und_peer
  go_enter Tryz.func145, Tryz.ntmps145
  go_wp2
  go_ret
  exact ⟨rfl, rfl⟩
theorem lentPeers_any (l : List DPeer) (a : Option Addr) (cap : Nat) (w : World) (hr : rdPeers w.heap.size w a l) :
    Calls Tryz.prog 145 #[.slice a l.length cap] w fun e w' => ∃ v, e = .returned v ∧ lnPeers w.heap.size w'.heap.size w w' a v l ∧ Below w.heap.size w w' := by
  cases a with
  | none =>
    have e := nil_of hr
    subst e
    refine (lentPeers_nil cap w).mono ?_
    rintro e w' ⟨rfl, rfl⟩
    exact ⟨_, rfl, Or.inl ⟨rfl, rfl, rfl⟩, Below.refl _ _⟩
  | some a => exact lentPeers_some l a cap w hr
end Go.Proofs.YtmkjlhplgcifiaaGreat
