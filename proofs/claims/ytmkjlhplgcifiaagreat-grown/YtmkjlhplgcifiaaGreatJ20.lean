/-
  Rows are compared: row.compare orders them by what they say (all but Allow), and makes new memory alone.
-/
import Derived.Test.YtmkjlhplgcifiaaGreatJ02
import Derived.Test.YtmkjlhplgcifiaaGreatRows
import Derived.Shelf.SlSortCmp.InsertionK
namespace Go.Proofs.YtmkjlhplgcifiaaGreat
open Go.ChangeShapes Go.WideShapes Go.ChangeAt Go.RowKit
set_option linter.unusedVariables false
set_option linter.unusedSimpArgs false
structure DRow where
  sb : Int
  sn : Int
  db : Int
  dn : Int
  proto : Int
  lo : Int
  hi : Int
  allow : Bool
def encRow (r : DRow) : List Value := [.int .i64 r.sb, .int .i64 r.sn, .int .i64 r.db, .int .i64 r.dn, .int .i64 r.proto, .int .i64 r.lo, .int .i64 r.hi, .bool r.allow]
def cmpI (a b : Int) : Int := if a < b then -1 else if b < a then 1 else 0
def orI : List Int → Int
  | [] => 0
  | a :: l => if a = 0 then orI l else a
def lexC : List Int → List Int → Int
  | a :: s, b :: t => if cmpI a b = 0 then lexC s t else cmpI a b
  | _, _ => 0
def rowKey (r : DRow) : List Int := [r.sb, r.sn, r.db, r.dn, r.proto, r.lo, r.hi]
def cmpRow (x y : DRow) : Int := orI [orI [cmpI x.sb y.sb, cmpI x.sn y.sn], orI [cmpI x.db y.db, cmpI x.dn y.dn], cmpI x.proto y.proto, cmpI x.lo y.lo, cmpI x.hi y.hi]
theorem cmpI_zero {a b : Int} : cmpI a b = 0 ↔ a = b := by unfold cmpI; split <;> (try split) <;> omega
theorem cmpI_neg {a b : Int} : cmpI a b < 0 ↔ a < b := by unfold cmpI; split <;> (try split) <;> omega
theorem cmpRow_lex (x y : DRow) : cmpRow x y = lexC (rowKey x) (rowKey y) := by
  unfold cmpRow rowKey
  simp only [orI, lexC]
  repeat' split
  all_goals first | rfl | simp_all
theorem lexC_self : ∀ s : List Int, lexC s s = 0
  | [] => rfl
  | a :: s => by rw [lexC, if_pos (cmpI_zero.2 rfl), lexC_self s]
theorem lexC_trans : ∀ s t u : List Int, s.length = t.length → t.length = u.length → lexC s t < 0 → lexC t u < 0 → lexC s u < 0
  | [], _, _, _, _, h, _ => by simp [lexC] at h
  | _ :: _, [], _, h, _, _, _ => by simp at h
  | _ :: _, _ :: _, [], _, h, _, _ => by simp at h
  | a :: s, b :: t, c :: u, h1, h2, h3, h4 => by
    rw [lexC] at *
    have ih := lexC_trans s t u (by simpa using h1) (by simpa using h2)
    by_cases e1 : cmpI a b = 0
    · rw [if_pos e1] at h3
      have e1' := cmpI_zero.1 e1
      subst e1'
      by_cases e2 : cmpI a c = 0
      · rw [if_pos e2] at h4 ⊢; exact ih h3 h4
      · rw [if_neg e2] at h4 ⊢; exact h4
    · rw [if_neg e1] at h3
      by_cases e2 : cmpI b c = 0
      · rw [cmpI_zero] at e2; subst e2; rw [if_neg e1]; exact h3
      · rw [if_neg e2] at h4
        have h5 : a < c := by have := cmpI_neg.1 h3; have := cmpI_neg.1 h4; omega
        rw [if_neg (fun h => by have := cmpI_zero.1 h; omega)]
        exact cmpI_neg.2 h5
theorem lexC_ntrans : ∀ s t u : List Int, s.length = t.length → t.length = u.length → ¬ lexC s t < 0 → ¬ lexC t u < 0 → ¬ lexC s u < 0
  | [], _, _, _, _, _, _ => by simp [lexC]
  | _ :: _, [], _, h, _, _, _ => by simp at h
  | _ :: _, _ :: _, [], _, h, _, _ => by simp at h
  | a :: s, b :: t, c :: u, h1, h2, h3, h4 => by
    rw [lexC] at *
    have ih := lexC_ntrans s t u (by simpa using h1) (by simpa using h2)
    by_cases e1 : cmpI a b = 0
    · rw [if_pos e1] at h3
      have e1' := cmpI_zero.1 e1
      subst e1'
      by_cases e2 : cmpI a c = 0
      · rw [if_pos e2] at h4 ⊢; exact ih h3 h4
      · rw [if_neg e2] at h4 ⊢; exact h4
    · rw [if_neg e1] at h3
      by_cases e2 : cmpI b c = 0
      · rw [cmpI_zero] at e2; subst e2; rw [if_neg e1]; exact h3
      · rw [if_neg e2] at h4
        rw [cmpI_neg] at h3 h4
        have h5 : c < a := by
          have n1 : ¬ a = b := fun h => e1 (cmpI_zero.2 h)
          have n2 : ¬ b = c := fun h => e2 (cmpI_zero.2 h)
          omega
        rw [if_neg (fun h => by have := cmpI_zero.1 h; omega), cmpI_neg]
        omega
theorem swoRow : Go.Sort.SWO (ltOf cmpRow) where
  irrefl x := by unfold ltOf; rw [cmpRow_lex, lexC_self]; rfl
  trans x y z h1 h2 := by
    unfold ltOf at *; rw [cmpRow_lex] at *
    simp only [decide_eq_true_eq] at *
    exact lexC_trans _ (rowKey y) _ rfl rfl h1 h2
  ntrans x y z h1 h2 := by
    unfold ltOf at *; rw [cmpRow_lex] at *
    simp only [decide_eq_false_iff_not] at *
    exact lexC_ntrans _ (rowKey y) _ rfl rfl h1 h2
theorem isNaN_any (x : Int) (w : World) : Calls Tryz.prog 186 #[.int .i64 x] w fun e w' => e = .returned (.bool false) ∧ w' = w := by
  go_enter Tryz.func186, Tryz.ntmps186
  go_wp2
  go_ret
  simp
theorem cmpInt_any (x y : Int) (w : World) : Calls Tryz.prog 182 #[.int .i64 x, .int .i64 y] w fun e w' => e = .returned (.int .i64 (cmpI x y)) ∧ w' = w := by
  by_cases h1 : x < y
  · have HF := hid (show cmpI x y = -1 by rw [cmpI, if_pos h1])
    go_enter Tryz.func182, Tryz.ntmps182
    go_wp2_with (go_at_call 186; refine (isNaN_any _ _).mono ?_; rintro e w' ⟨rfl, rfl⟩)
    go_ret
    exact ⟨by rw [HF.out]; rfl, rfl⟩
  · by_cases h2 : y < x
    · have HF := hid (show cmpI x y = 1 by rw [cmpI, if_neg h1, if_pos h2])
      go_enter Tryz.func182, Tryz.ntmps182
      go_wp2_with (go_at_call 186; refine (isNaN_any _ _).mono ?_; rintro e w' ⟨rfl, rfl⟩)
      go_ret
      exact ⟨by rw [HF.out]; rfl, rfl⟩
    · have HF := hid (show cmpI x y = 0 by rw [cmpI, if_neg h1, if_neg h2])
      go_enter Tryz.func182, Tryz.ntmps182
      go_wp2_with (go_at_call 186; refine (isNaN_any _ _).mono ?_; rintro e w' ⟨rfl, rfl⟩)
      go_ret
      exact ⟨by rw [HF.out]; rfl, rfl⟩
theorem orI_at : ∀ {l : List Int} {k : Nat} {x : Int}, l[k]? = some x → (∀ y ∈ l.take k, y = 0) → ¬ x = 0 → orI l = x
  | [], _, _, h, _, _ => by simp at h
  | a :: l, 0, x, h, _, hx => by simp at h; subst h; rw [orI, if_neg hx]
  | a :: l, k + 1, x, h, h0, hx => by
    rw [orI, if_pos (h0 a (by simp))]
    exact orI_at (k := k) (by simpa using h) (fun y hy => h0 y (by simp [hy])) hx
theorem orI_none : ∀ {l : List Int}, (∀ y ∈ l, y = 0) → orI l = 0
  | [], _ => rfl
  | a :: l, h => by rw [orI, if_pos (h a (by simp))]; exact orI_none fun y hy => h y (by simp [hy])
theorem or_any (l : List Int) (b cap : Nat) (w : World) (hlen : l.length ≤ 100) (hc : ∀ j v, l[j]? = some v → w.cell? ⟨b, j, none⟩ = some (.int .i64 v)) :
    Calls Tryz.prog 180 #[.slice (some ⟨b, 0, none⟩) l.length cap] w fun e w' => e = .returned (.int .i64 (orI l)) ∧ w' = w := by
  have HC := hid hc
  clear hc
  go_enter Tryz.func180, Tryz.ntmps180
  go_wp2
  go_loopw [8] (fun i wr => ∃ k : Nat, k ≤ l.length ∧ i = .int .i64 k ∧ (∀ y ∈ l.take k, y = 0) ∧ wr = w) (fun i _ => l.length - (intOf i).toNat)
  case atStart => exact ⟨0, Nat.zero_le _, rfl, fun y hy => by simp at hy, rfl⟩
  case round =>
    obtain ⟨k, hk, rfl, hall, rfl⟩ := hrel
    have HA := hid hall
    clear hall
    by_cases hlt : k < l.length
    · obtain ⟨x, hxk⟩ : ∃ x, l[k]? = some x := ⟨l[k], by simp [hlt]⟩
      have HX := hid hxk
      clear hxk
      have c0 := HC.out k x HX.out
      cases hx : (x != 0)
      · go_wp2
        exact ⟨⟨k + 1, by omega, by go_num, fun y hy => by
          rw [List.take_add_one, HX.out] at hy
          rcases List.mem_append.1 hy with h | h
          · exact HA.out y h
          · simp at h; subst h; simpa using hx, trivial⟩, by simp [intOf]; omega⟩
      · have HF := hid (orI_at HX.out HA.out (by simpa using hx))
        go_wp2
        go_ret
        exact ⟨by rw [HF.out]; rfl, rfl⟩
    · have HF := hid (orI_none (l := l) (by have := HA.out; rwa [List.take_of_length_le (by omega)] at this))
      go_wp2
      go_ret
      exact ⟨by rw [HF.out]; rfl, rfl⟩
theorem cells_new_ints (X : World) (l : List Int) (t : TypeId) : ∀ j v, l[j]? = some v → (X.alloc (.cells (l.map (Value.int .i64)).toArray t)).cell? ⟨X.heap.size, j, none⟩ = some (.int .i64 v) := fun j v h => by simp [h]
theorem cells_new_2 (X : World) (a b : Int) (t : TypeId) : ∀ j v, [a, b][j]? = some v → (X.alloc (.cells #[.int .i64 a, .int .i64 b] t)).cell? ⟨X.heap.size, j, none⟩ = some (.int .i64 v) := cells_new_ints X [a, b] t
theorem cells_new_5 (X : World) (a b c d e : Int) (t : TypeId) : ∀ j v, [a, b, c, d, e][j]? = some v → (X.alloc (.cells #[.int .i64 a, .int .i64 b, .int .i64 c, .int .i64 d, .int .i64 e] t)).cell? ⟨X.heap.size, j, none⟩ = some (.int .i64 v) := cells_new_ints X [a, b, c, d, e] t
theorem take_10 {α : Type} (a0 a1 a2 a3 a4 a5 a6 a7 a8 a9 : α) (r : List α) : (a0 :: a1 :: a2 :: a3 :: a4 :: a5 :: a6 :: a7 :: a8 :: a9 :: r).take 10 = [a0, a1, a2, a3, a4, a5, a6, a7, a8, a9] := rfl
theorem drop_10 {α : Type} (a0 a1 a2 a3 a4 a5 a6 a7 a8 a9 : α) (r : List α) : (a0 :: a1 :: a2 :: a3 :: a4 :: a5 :: a6 :: a7 :: a8 :: a9 :: r).drop 10 = r := rfl
theorem cmpBlk_any (x0 x1 y0 y1 : Int) (w : World) : Calls Tryz.prog 181 #[.agg #[.int .i64 x0, .int .i64 x1], .agg #[.int .i64 y0, .int .i64 y1]] w fun e w' => e = .returned (.int .i64 (orI [cmpI x0 y0, cmpI x1 y1])) ∧ ∃ q os, w' = Go.Sort.grow (w.drewN q) os := by
  go_enter Tryz.func181, Tryz.ntmps181
  go_wp2
  obtain ⟨W, hW⟩ : ∃ W, W = (w.alloc (.cells #[.int .i64 x0, .int .i64 x1] 47)).alloc (.cells #[.int .i64 y0, .int .i64 y1] 47) := ⟨_, rfl⟩
  have c0 : ∀ n os, (Go.Sort.grow (W.drewN n) os).cell? ⟨w.heap.size, 0, none⟩ = some (.int .i64 x0) := fun n os => cell_grown (by rw [hW]; simp; omega) (by rw [hW]; simp [go_sem]) n os
  have c1 : ∀ n os, (Go.Sort.grow (W.drewN n) os).cell? ⟨w.heap.size, 1, none⟩ = some (.int .i64 x1) := fun n os => cell_grown (by rw [hW]; simp; omega) (by rw [hW]; simp [go_sem]) n os
  have c2 : ∀ n os, (Go.Sort.grow (W.drewN n) os).cell? ⟨w.heap.size + 1, 0, none⟩ = some (.int .i64 y0) := fun n os => cell_grown (by rw [hW]; simp) (by rw [hW]; simp [go_sem]) n os
  have c3 : ∀ n os, (Go.Sort.grow (W.drewN n) os).cell? ⟨w.heap.size + 1, 1, none⟩ = some (.int .i64 y1) := fun n os => cell_grown (by rw [hW]; simp) (by rw [hW]; simp [go_sem]) n os
  have HW : ∀ q os, ∃ q' os', Go.Sort.grow (W.drewN q) os = Go.Sort.grow (w.drewN q') os' := fun q os => ⟨q, _, by rw [hW, Go.Sort.alloc_eq_grow, Go.Sort.alloc_eq_grow, Go.Sort.grow_grow]; exact Go.Sort.grow_grow (w.drewN q) _ os⟩
  rw [← hW]
  have HH := hid HW
  clear hW HW
  refine wp_region_quiet_tail (C := fun w' => ∃ p : GrownBy, w' = Go.Sort.grow (W.drewN p.n) p.os) 10 (by kernel_rfl) (by kernel_rfl) (by kernel_rfl) ⟨⟨1, #[]⟩, by rw [Go.Sort.grow_empty]; rfl⟩ ?_
  simp only [take_10, drop_10]
  repeat (quiet_step (first | (go_at_call 182; exact (cmpInt_any _ _ _).mono fun e w' ⟨he, hw⟩ => ⟨he, ⟨⟨_, _⟩, hw⟩⟩)))
  refine wpQuiet_nil ?_
  rintro X ⟨⟨q, os⟩, hX⟩
  have HX := hid (hX ▸ HH.out q os)
  clear hX
  go_wp2_with (go_at_call 180; refine (or_any [cmpI x0 y0, cmpI x1 y1] _ _ _ (by simp) (cells_new_2 X _ _ _)).mono ?_; rintro e w' ⟨rfl, rfl⟩)
  go_ret
  refine ⟨rfl, ?_⟩
  obtain ⟨q', os', h⟩ := HX.out
  exact ⟨q', os' ++ #[_], by rw [h, Go.Sort.alloc_eq_grow, Go.Sort.grow_grow]⟩
theorem take_25 {α : Type} (a0 a1 a2 a3 a4 a5 a6 a7 a8 a9 b0 b1 b2 b3 b4 b5 b6 b7 b8 b9 c0 c1 c2 c3 c4 : α) (r : List α) : (a0 :: a1 :: a2 :: a3 :: a4 :: a5 :: a6 :: a7 :: a8 :: a9 :: b0 :: b1 :: b2 :: b3 :: b4 :: b5 :: b6 :: b7 :: b8 :: b9 :: c0 :: c1 :: c2 :: c3 :: c4 :: r).take 25 = [a0, a1, a2, a3, a4, a5, a6, a7, a8, a9, b0, b1, b2, b3, b4, b5, b6, b7, b8, b9, c0, c1, c2, c3, c4] := rfl
theorem drop_25 {α : Type} (a0 a1 a2 a3 a4 a5 a6 a7 a8 a9 b0 b1 b2 b3 b4 b5 b6 b7 b8 b9 c0 c1 c2 c3 c4 : α) (r : List α) : (a0 :: a1 :: a2 :: a3 :: a4 :: a5 :: a6 :: a7 :: a8 :: a9 :: b0 :: b1 :: b2 :: b3 :: b4 :: b5 :: b6 :: b7 :: b8 :: b9 :: c0 :: c1 :: c2 :: c3 :: c4 :: r).drop 25 = r := rfl
set_option maxHeartbeats 1000000 in
theorem cmpRow_any (x y : DRow) (w : World) : Calls Tryz.prog 165 #[.agg #[.int .i64 x.sb, .int .i64 x.sn, .int .i64 x.db, .int .i64 x.dn, .int .i64 x.proto, .int .i64 x.lo, .int .i64 x.hi, .bool x.allow], .agg #[.int .i64 y.sb, .int .i64 y.sn, .int .i64 y.db, .int .i64 y.dn, .int .i64 y.proto, .int .i64 y.lo, .int .i64 y.hi, .bool y.allow]] w fun e w' => e = .returned (.int .i64 (cmpRow x y)) ∧ ∃ q os, w' = Go.Sort.grow (w.drewN q) os := by
  have HF := hid (show cmpRow x y = orI [orI [cmpI x.sb y.sb, cmpI x.sn y.sn], orI [cmpI x.db y.db, cmpI x.dn y.dn], cmpI x.proto y.proto, cmpI x.lo y.lo, cmpI x.hi y.hi] from rfl)
  go_enter Tryz.func165, Tryz.ntmps165
  go_wp2
  obtain ⟨W, hW⟩ : ∃ W, W = (w.alloc (.cells #[.int .i64 x.sb, .int .i64 x.sn, .int .i64 x.db, .int .i64 x.dn, .int .i64 x.proto, .int .i64 x.lo, .int .i64 x.hi, .bool x.allow] 49)).alloc (.cells #[.int .i64 y.sb, .int .i64 y.sn, .int .i64 y.db, .int .i64 y.dn, .int .i64 y.proto, .int .i64 y.lo, .int .i64 y.hi, .bool y.allow] 49) := ⟨_, rfl⟩
  have c0 : ∀ n os, (Go.Sort.grow (W.drewN n) os).cell? ⟨w.heap.size, 0, none⟩ = some (.int .i64 x.sb) := fun n os => cell_grown (by rw [hW]; simp; omega) (by rw [hW]; simp [go_sem]) n os
  have d0 : ∀ n os, (Go.Sort.grow (W.drewN n) os).cell? ⟨w.heap.size + 1, 0, none⟩ = some (.int .i64 y.sb) := fun n os => cell_grown (by rw [hW]; simp) (by rw [hW]; simp [go_sem]) n os
  have c1 : ∀ n os, (Go.Sort.grow (W.drewN n) os).cell? ⟨w.heap.size, 1, none⟩ = some (.int .i64 x.sn) := fun n os => cell_grown (by rw [hW]; simp; omega) (by rw [hW]; simp [go_sem]) n os
  have d1 : ∀ n os, (Go.Sort.grow (W.drewN n) os).cell? ⟨w.heap.size + 1, 1, none⟩ = some (.int .i64 y.sn) := fun n os => cell_grown (by rw [hW]; simp) (by rw [hW]; simp [go_sem]) n os
  have c2 : ∀ n os, (Go.Sort.grow (W.drewN n) os).cell? ⟨w.heap.size, 2, none⟩ = some (.int .i64 x.db) := fun n os => cell_grown (by rw [hW]; simp; omega) (by rw [hW]; simp [go_sem]) n os
  have d2 : ∀ n os, (Go.Sort.grow (W.drewN n) os).cell? ⟨w.heap.size + 1, 2, none⟩ = some (.int .i64 y.db) := fun n os => cell_grown (by rw [hW]; simp) (by rw [hW]; simp [go_sem]) n os
  have c3 : ∀ n os, (Go.Sort.grow (W.drewN n) os).cell? ⟨w.heap.size, 3, none⟩ = some (.int .i64 x.dn) := fun n os => cell_grown (by rw [hW]; simp; omega) (by rw [hW]; simp [go_sem]) n os
  have d3 : ∀ n os, (Go.Sort.grow (W.drewN n) os).cell? ⟨w.heap.size + 1, 3, none⟩ = some (.int .i64 y.dn) := fun n os => cell_grown (by rw [hW]; simp) (by rw [hW]; simp [go_sem]) n os
  have c4 : ∀ n os, (Go.Sort.grow (W.drewN n) os).cell? ⟨w.heap.size, 4, none⟩ = some (.int .i64 x.proto) := fun n os => cell_grown (by rw [hW]; simp; omega) (by rw [hW]; simp [go_sem]) n os
  have d4 : ∀ n os, (Go.Sort.grow (W.drewN n) os).cell? ⟨w.heap.size + 1, 4, none⟩ = some (.int .i64 y.proto) := fun n os => cell_grown (by rw [hW]; simp) (by rw [hW]; simp [go_sem]) n os
  have c5 : ∀ n os, (Go.Sort.grow (W.drewN n) os).cell? ⟨w.heap.size, 5, none⟩ = some (.int .i64 x.lo) := fun n os => cell_grown (by rw [hW]; simp; omega) (by rw [hW]; simp [go_sem]) n os
  have d5 : ∀ n os, (Go.Sort.grow (W.drewN n) os).cell? ⟨w.heap.size + 1, 5, none⟩ = some (.int .i64 y.lo) := fun n os => cell_grown (by rw [hW]; simp) (by rw [hW]; simp [go_sem]) n os
  have c6 : ∀ n os, (Go.Sort.grow (W.drewN n) os).cell? ⟨w.heap.size, 6, none⟩ = some (.int .i64 x.hi) := fun n os => cell_grown (by rw [hW]; simp; omega) (by rw [hW]; simp [go_sem]) n os
  have d6 : ∀ n os, (Go.Sort.grow (W.drewN n) os).cell? ⟨w.heap.size + 1, 6, none⟩ = some (.int .i64 y.hi) := fun n os => cell_grown (by rw [hW]; simp) (by rw [hW]; simp [go_sem]) n os
  have HW : ∀ q os, ∃ q' os', Go.Sort.grow (W.drewN q) os = Go.Sort.grow (w.drewN q') os' := fun q os => ⟨q, _, by rw [hW, Go.Sort.alloc_eq_grow, Go.Sort.alloc_eq_grow, Go.Sort.grow_grow]; exact Go.Sort.grow_grow (w.drewN q) _ os⟩
  rw [← hW]
  have HH := hid HW
  clear hW HW
  refine wp_region_quiet_tail (C := fun w' => ∃ p : GrownBy, w' = Go.Sort.grow (W.drewN p.n) p.os) 25 (by kernel_rfl) (by kernel_rfl) (by kernel_rfl) ⟨⟨1, #[]⟩, by rw [Go.Sort.grow_empty]; rfl⟩ ?_
  simp only [take_25, drop_25]
  repeat (quiet_step (first
    | (go_at_call 182; exact (cmpInt_any _ _ _).mono fun e w' ⟨he, hw⟩ => ⟨he, ⟨⟨_, _⟩, hw⟩⟩)
    | (go_at_call 181; exact Calls.grown_of (cmpBlk_any _ _ _ _ _))))
  refine wpQuiet_nil ?_
  rintro X ⟨⟨q, os⟩, hX⟩
  have HX := hid (hX ▸ HH.out q os)
  clear hX
  go_wp2_with (go_at_call 180; refine (or_any [orI [cmpI x.sb y.sb, cmpI x.sn y.sn], orI [cmpI x.db y.db, cmpI x.dn y.dn], cmpI x.proto y.proto, cmpI x.lo y.lo, cmpI x.hi y.hi] _ _ _ (by simp) (cells_new_5 X _ _ _ _ _ _)).mono ?_; rintro e w' ⟨rfl, rfl⟩)
  go_ret
  refine ⟨by rw [HF.out]; rfl, ?_⟩
  obtain ⟨q', os', h⟩ := HX.out
  exact ⟨q', os' ++ #[_], by rw [h, Go.Sort.alloc_eq_grow, Go.Sort.grow_grow]⟩
end Go.Proofs.YtmkjlhplgcifiaaGreat
