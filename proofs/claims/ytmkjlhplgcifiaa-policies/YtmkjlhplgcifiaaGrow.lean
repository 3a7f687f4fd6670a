/-
  Regions that draw their order, whose operations only read and whose calls only make new memory: one walk, in the order of the text, serves every order (the law of Derived.Deep.Quiet, at the class of the worlds that have grown).
-/
import Derived.Test.YtmkjlhplgcifiaaBase
namespace Go
/-- The world, with new blocks behind its own and some draws made. -/
def World.grow (w : World) (u : Nat → Array Obj) : World := { w with heap := w.heap ++ u 0, drawn := (u 1).size }

theorem World.heap_grow (w : World) (u : Nat → Array Obj) (k : Nat) (h : k < w.heap.size) : (w.grow u).heap[k]? = w.heap[k]? := by
  simp [World.grow, Array.getElem?_append, h]

theorem World.cell?_grow (w : World) (u : Nat → Array Obj) (a : Addr) (h : (w.cell? a).isSome = true) : (w.grow u).cell? a = w.cell? a := by
  have hb : a.block < w.heap.size := by
    rcases Nat.lt_or_ge a.block w.heap.size with h' | h'
    · exact h'
    · simp [World.cell?, Array.getElem?_eq_none h'] at h
  simp only [World.cell?, World.heap_grow w u _ hb]

attribute [local simp] World.cell?_grow
attribute [local go_sem] World.cell?_grow

theorem World.below_grow (w : World) (u : Nat → Array Obj) : RowKit.Below w.heap.size w (w.grow u) :=
  ⟨rfl, rfl, rfl, by simp [World.grow], fun k hk => World.heap_grow w u k hk⟩

theorem World.grow_of_below {w w' : World} (h : RowKit.Below w.heap.size w w') : ∃ u, w' = w.grow u := by
  refine ⟨fun i => if i = 0 then w'.heap.extract w.heap.size else Array.replicate w'.drawn default, ?_⟩
  obtain ⟨hp, tp, dr, os, ou⟩ := w'
  obtain ⟨h1, h2, h3, h4, h5⟩ := h
  simp only at h1 h2 h3 h4 h5
  subst h1 h2 h3
  have : hp = w.heap ++ hp.extract w.heap.size := by
    apply Array.ext_getElem?
    intro i
    rw [Array.getElem?_append]
    split
    · rename_i hi; exact h5 i hi
    · rename_i hi
      simp only [Array.getElem?_extract]
      rcases Nat.lt_or_ge i hp.size with h' | h'
      · rw [if_pos (by simp; omega)]; congr 1; omega
      · rw [if_neg (by simp; omega), Array.getElem?_eq_none h']
  simp only [World.grow, if_true, Nat.one_ne_zero, if_false, Array.size_replicate]
  rw [← this]

theorem wp_region_grow {P : Program} {id : Nat} {Q : Exit → Act → World → Prop} {a : Act} {w : World} {l : List Oper} (hm : P.follows .mixedOrders = true) (hB : Region.lexB .any l.toArray = true)
    (h : wpQuiet P l.toArray (fun w' => ∃ u, w' = w.grow u) (fun a' => ∀ w', RowKit.Below w.heap.size w w' → Q .normal a' w') l a) : (Code.region id l.toArray true).wp P Q a w := by
  refine wp_region_quiet (C := fun w' => ∃ u, w' = w.grow u) hm hB (World.grow_of_below ⟨rfl, rfl, rfl, Nat.le_refl _, fun _ _ => rfl⟩) ?_
  have e : (fun a' => ∀ w', RowKit.Below w.heap.size w w' → Q .normal a' w') = fun a' => ∀ w', (∃ u, w' = w.grow u) → Q .normal a' w' := by
    funext a'
    refine propext ⟨fun H w' ⟨u, hu⟩ => hu ▸ H _ (World.below_grow w u), fun H w' hb => H w' (World.grow_of_below hb)⟩
  rw [← e]
  simpa using h

theorem Calls.grow_of {P : Program} {f : FuncId} {args : Array Value} {w : World} {u : Nat → Array Obj} {v : Value}
    (h : Calls P f args (w.grow u) fun e w' => e = .returned v ∧ RowKit.Below (w.grow u).heap.size (w.grow u) w') : Calls P f args (w.grow u) fun e w'' => e = .returned v ∧ ∃ u', w'' = w.grow u' :=
  h.mono fun _ _ ⟨he, hm⟩ => ⟨he, World.grow_of_below ((World.below_grow w u).trans (hm.mono (World.below_grow w u).size))⟩
theorem Calls.grow_of_same {P : Program} {f : FuncId} {args : Array Value} {w : World} {u : Nat → Array Obj} {v : Value}
    (h : Calls P f args (w.grow u) fun e w' => e = .returned v ∧ w' = w.grow u) : Calls P f args (w.grow u) fun e w'' => e = .returned v ∧ ∃ u', w'' = w.grow u' :=
  h.mono fun _ _ ⟨he, hm⟩ => ⟨he, u, hm⟩
theorem Calls.grow_bool {P : Program} {f : FuncId} {args : Array Value} {w : World} {u : Nat → Array Obj} {b b' : Bool} (hb : b = b')
    (h : Calls P f args (w.grow u) fun e w' => e = .returned (.bool b) ∧ RowKit.Below (w.grow u).heap.size (w.grow u) w') : Calls P f args (w.grow u) fun e w'' => e = .returned (.bool b') ∧ ∃ u', w'' = w.grow u' := by
  subst hb; exact Calls.grow_of h
theorem Calls.grow_bool_same {P : Program} {f : FuncId} {args : Array Value} {w : World} {u : Nat → Array Obj} {b b' : Bool} (hb : b = b')
    (h : Calls P f args (w.grow u) fun e w' => e = .returned (.bool b) ∧ w' = w.grow u) : Calls P f args (w.grow u) fun e w'' => e = .returned (.bool b') ∧ ∃ u', w'' = w.grow u' := by
  subst hb; exact Calls.grow_of_same h
end Go
