/-
  Drawn regions whose operations only read and whose calls only make new memory, but for a tail that waits for all of them.
  Contracts of the small functions: bounds, selectors, ports, packets, pods (the program's and the document's).
  == of blocks, pods, selectors and ports, as the program's operation runs.
-/
import Derived.Test.YtmkjlhplgcifiaaGreatJ02
import Derived.Test.YtmkjlhplgcifiaaGreatJ01
import Derived.Test.YtmkjlhplgcifiaaGreatRows
import Derived.Laws.StructEq
namespace Go.Proofs.YtmkjlhplgcifiaaGreat
open Go.ChangeShapes Go.WideShapes Go.ChangeAt Go.RowKit
attribute [local simp] World.cell?_grow
attribute [local go_sem] World.cell?_grow
set_option linter.unusedVariables false
theorem takes_6 {α : Type} (a0 a1 a2 a3 a4 a5 : α) (r : List α) : (a0 :: a1 :: a2 :: a3 :: a4 :: a5 :: r).take 6 = [a0, a1, a2, a3, a4, a5] := rfl
theorem drops_6 {α : Type} (a0 a1 a2 a3 a4 a5 : α) (r : List α) : (a0 :: a1 :: a2 :: a3 :: a4 :: a5 :: r).drop 6 = r := rfl
theorem takes_7 {α : Type} (a0 a1 a2 a3 a4 a5 a6 : α) (r : List α) : (a0 :: a1 :: a2 :: a3 :: a4 :: a5 :: a6 :: r).take 7 = [a0, a1, a2, a3, a4, a5, a6] := rfl
theorem drops_7 {α : Type} (a0 a1 a2 a3 a4 a5 a6 : α) (r : List α) : (a0 :: a1 :: a2 :: a3 :: a4 :: a5 :: a6 :: r).drop 7 = r := rfl
theorem takes_9 {α : Type} (a0 a1 a2 a3 a4 a5 a6 a7 a8 : α) (r : List α) : (a0 :: a1 :: a2 :: a3 :: a4 :: a5 :: a6 :: a7 :: a8 :: r).take 9 = [a0, a1, a2, a3, a4, a5, a6, a7, a8] := rfl
theorem drops_9 {α : Type} (a0 a1 a2 a3 a4 a5 a6 a7 a8 : α) (r : List α) : (a0 :: a1 :: a2 :: a3 :: a4 :: a5 :: a6 :: a7 :: a8 :: r).drop 9 = r := rfl
theorem wp_region_grow_tail {P : Program} {id : Nat} {Q : Exit → Act → World → Prop} {a : Act} {w : World} {l : List Oper} (n : Nat) (hm : P.follows .mixedOrders = true) (hB : Region.lexB .any (l.take n).toArray = true)
    (hT : (tailB .any l.toArray n && seqB .any l.toArray (l.length - n) n ((Array.replicate n true) ++ (Array.replicate (l.length - n) false))) = true)
    (h : wpQuiet P (l.take n).toArray (fun w' => ∃ u, w' = w.grow u) (fun a' => ∀ w', Below w.heap.size w w' → wpList P l.toArray Q (l.drop n) a' w') (l.take n) a) : (Code.region id l.toArray true).wp P Q a w := by
  refine wp_region_quiet_tail (C := fun w' => ∃ u, w' = w.grow u) n hm hB hT (World.grow_of_below ⟨rfl, rfl, rfl, Nat.le_refl _, fun _ _ => rfl⟩) ?_
  have e : (fun a' => ∀ w', Below w.heap.size w w' → wpList P l.toArray Q (l.drop n) a' w') = fun a' => ∀ w', (∃ u, w' = w.grow u) → wpList P l.toArray Q (l.drop n) a' w' := by
    funext a'
    refine propext ⟨fun H w' ⟨u, hu⟩ => hu ▸ H _ (World.below_grow w u), fun H w' hb => H w' (World.grow_of_below hb)⟩
  rw [← e]
  exact h
end Go.Proofs.YtmkjlhplgcifiaaGreat
namespace Go.Proofs.YtmkjlhplgcifiaaGreat
open Go.ChangeShapes Go.WideShapes Go.ChangeAt Go.RowKit
set_option linter.unusedVariables false
set_option linter.unusedSimpArgs false
theorem within_any (n lo hi : Int) (w : World) :
    Calls Tryz.prog 63 #[.int .i64 n, .int .i64 lo, .int .i64 hi] w fun e w' => e = .returned (.bool (btw n lo hi)) ∧ w' = w := by
  by_cases h1 : lo ≤ n <;> by_cases h2 : n ≤ hi <;>
  · go_enter Tryz.func63, Tryz.ntmps63
    go_wp2
    go_ret
    simp [btw, h1, h2]
theorem address_any (n : Int) (w : World) :
    Calls Tryz.prog 62 #[.int .i64 n] w fun e w' => e = .returned (.bool (btw n 0 4294967295)) ∧ w' = w := by
  go_enter Tryz.func62, Tryz.ntmps62
  go_wp2_with (go_at_call 63; refine (within_any _ _ _ _).mono ?_; rintro e w' ⟨rfl, rfl⟩)
  go_ret
  exact ⟨rfl, rfl⟩
theorem space_any (n : Int) (w : World) :
    Calls Tryz.prog 116 #[.int .i64 n] w fun e w' => e = .returned (.bool (btw n 0 3)) ∧ w' = w := by
  go_enter Tryz.func116, Tryz.ntmps116
  go_wp2_with (go_at_call 63; refine (within_any _ _ _ _).mono ?_; rintro e w' ⟨rfl, rfl⟩)
  go_ret
  exact ⟨rfl, rfl⟩
theorem labels_any (n : Int) (w : World) :
    Calls Tryz.prog 117 #[.int .i64 n] w fun e w' => e = .returned (.bool (btw n 0 255)) ∧ w' = w := by
  go_enter Tryz.func117, Tryz.ntmps117
  go_wp2_with (go_at_call 63; refine (within_any _ _ _ _).mono ?_; rintro e w' ⟨rfl, rfl⟩)
  go_ret
  exact ⟨rfl, rfl⟩
theorem port_any (n : Int) (w : World) :
    Calls Tryz.prog 64 #[.int .i64 n] w fun e w' => e = .returned (.bool (btw n 0 65535)) ∧ w' = w := by
  go_enter Tryz.func64, Tryz.ntmps64
  go_wp2_with (go_at_call 63; refine (within_any _ _ _ _).mono ?_; rintro e w' ⟨rfl, rfl⟩)
  go_ret
  exact ⟨rfl, rfl⟩
theorem podRight_any (p : DPod) (w : World) :
    Calls Tryz.prog 90 #[.agg #[.int .i64 p.host, .int .i64 p.ip, .int .i64 p.space, .int .i64 p.labels]] w fun e w' => e = .returned (.bool (podOk p)) ∧ Below w.heap.size w w' := by
  go_enter Tryz.func90, Tryz.ntmps90
  cases hq1 : btw p.host 0 3
  · go_wp2_with (first
      | (go_at_call 63; refine (within_any _ _ _ _).mono ?_; rintro e w' ⟨rfl, rfl⟩)
      | (go_at_call 62; refine (address_any _ _).mono ?_; rintro e w' ⟨rfl, rfl⟩)
      | (go_at_call 116; refine (space_any _ _).mono ?_; rintro e w' ⟨rfl, rfl⟩)
      | (go_at_call 117; refine (labels_any _ _).mono ?_; rintro e w' ⟨rfl, rfl⟩))
    go_ret
    exact ⟨by simp [podOk, hq1], (by repeat (first | exact Below.refl _ _ | assumption | apply Ext.alloc | apply Ext.drewN | apply Ext.drew | refine Ext.trans ?_ (by assumption)))⟩
  cases hq2 : btw p.ip 0 4294967295
  · go_wp2_with (first
      | (go_at_call 63; refine (within_any _ _ _ _).mono ?_; rintro e w' ⟨rfl, rfl⟩)
      | (go_at_call 62; refine (address_any _ _).mono ?_; rintro e w' ⟨rfl, rfl⟩)
      | (go_at_call 116; refine (space_any _ _).mono ?_; rintro e w' ⟨rfl, rfl⟩)
      | (go_at_call 117; refine (labels_any _ _).mono ?_; rintro e w' ⟨rfl, rfl⟩))
    go_ret
    exact ⟨by simp [podOk, hq1, hq2], (by repeat (first | exact Below.refl _ _ | assumption | apply Ext.alloc | apply Ext.drewN | apply Ext.drew | refine Ext.trans ?_ (by assumption)))⟩
  cases hq3 : btw p.space 0 3
  · go_wp2_with (first
      | (go_at_call 63; refine (within_any _ _ _ _).mono ?_; rintro e w' ⟨rfl, rfl⟩)
      | (go_at_call 62; refine (address_any _ _).mono ?_; rintro e w' ⟨rfl, rfl⟩)
      | (go_at_call 116; refine (space_any _ _).mono ?_; rintro e w' ⟨rfl, rfl⟩)
      | (go_at_call 117; refine (labels_any _ _).mono ?_; rintro e w' ⟨rfl, rfl⟩))
    go_ret
    exact ⟨by simp [podOk, hq1, hq2, hq3], (by repeat (first | exact Below.refl _ _ | assumption | apply Ext.alloc | apply Ext.drewN | apply Ext.drew | refine Ext.trans ?_ (by assumption)))⟩
  cases hq4 : btw p.labels 0 255
  · go_wp2_with (first
      | (go_at_call 63; refine (within_any _ _ _ _).mono ?_; rintro e w' ⟨rfl, rfl⟩)
      | (go_at_call 62; refine (address_any _ _).mono ?_; rintro e w' ⟨rfl, rfl⟩)
      | (go_at_call 116; refine (space_any _ _).mono ?_; rintro e w' ⟨rfl, rfl⟩)
      | (go_at_call 117; refine (labels_any _ _).mono ?_; rintro e w' ⟨rfl, rfl⟩))
    go_ret
    exact ⟨by simp [podOk, hq1, hq2, hq3, hq4], (by repeat (first | exact Below.refl _ _ | assumption | apply Ext.alloc | apply Ext.drewN | apply Ext.drew | refine Ext.trans ?_ (by assumption)))⟩
  go_wp2_with (first
    | (go_at_call 63; refine (within_any _ _ _ _).mono ?_; rintro e w' ⟨rfl, rfl⟩)
    | (go_at_call 62; refine (address_any _ _).mono ?_; rintro e w' ⟨rfl, rfl⟩)
    | (go_at_call 116; refine (space_any _ _).mono ?_; rintro e w' ⟨rfl, rfl⟩)
    | (go_at_call 117; refine (labels_any _ _).mono ?_; rintro e w' ⟨rfl, rfl⟩))
  go_ret
  exact ⟨by simp [podOk, hq1, hq2, hq3, hq4], (by repeat (first | exact Below.refl _ _ | assumption | apply Ext.alloc | apply Ext.drewN | apply Ext.drew | refine Ext.trans ?_ (by assumption)))⟩
theorem selRight_any (need ban : Int) (w : World) :
    Calls Tryz.prog 119 #[.agg #[.int .i64 need, .int .i64 ban]] w fun e w' => e = .returned (.bool (selOk need ban)) ∧ Below w.heap.size w w' := by
  go_enter Tryz.func119, Tryz.ntmps119
  cases hq1 : btw need 0 255
  · go_wp2_with (go_at_call 117; refine (labels_any _ _).mono ?_; rintro e w' ⟨rfl, rfl⟩)
    go_ret
    exact ⟨by simp [selOk, hq1], (by repeat (first | exact Below.refl _ _ | assumption | apply Ext.alloc | apply Ext.drewN | apply Ext.drew | refine Ext.trans ?_ (by assumption)))⟩
  cases hq2 : btw ban 0 255
  · go_wp2_with (go_at_call 117; refine (labels_any _ _).mono ?_; rintro e w' ⟨rfl, rfl⟩)
    go_ret
    exact ⟨by simp [selOk, hq1, hq2], (by repeat (first | exact Below.refl _ _ | assumption | apply Ext.alloc | apply Ext.drewN | apply Ext.drew | refine Ext.trans ?_ (by assumption)))⟩
  go_wp2_with (go_at_call 117; refine (labels_any _ _).mono ?_; rintro e w' ⟨rfl, rfl⟩)
  go_ret
  exact ⟨by simp [selOk, hq1, hq2], (by repeat (first | exact Below.refl _ _ | assumption | apply Ext.alloc | apply Ext.drewN | apply Ext.drew | refine Ext.trans ?_ (by assumption)))⟩
theorem portRight_any (p : DPort) (w : World) :
    Calls Tryz.prog 153 #[.agg #[.int .i64 p.proto, .int .i64 p.lo, .int .i64 p.hi]] w fun e w' => e = .returned (.bool (prtOk p)) ∧ Below w.heap.size w w' := by
  go_enter Tryz.func153, Tryz.ntmps153
  cases hq1 : btw p.proto 0 2
  · go_wp2_with (first
      | (go_at_call 63; refine (within_any _ _ _ _).mono ?_; rintro e w' ⟨rfl, rfl⟩)
      | (go_at_call 64; refine (port_any _ _).mono ?_; rintro e w' ⟨rfl, rfl⟩))
    go_ret
    exact ⟨by simp [prtOk, hq1], (by repeat (first | exact Below.refl _ _ | assumption | apply Ext.alloc | apply Ext.drewN | apply Ext.drew | refine Ext.trans ?_ (by assumption)))⟩
  cases hq2 : btw p.lo 0 65535
  · go_wp2_with (first
      | (go_at_call 63; refine (within_any _ _ _ _).mono ?_; rintro e w' ⟨rfl, rfl⟩)
      | (go_at_call 64; refine (port_any _ _).mono ?_; rintro e w' ⟨rfl, rfl⟩))
    go_ret
    exact ⟨by simp [prtOk, hq1, hq2], (by repeat (first | exact Below.refl _ _ | assumption | apply Ext.alloc | apply Ext.drewN | apply Ext.drew | refine Ext.trans ?_ (by assumption)))⟩
  cases hq3 : btw p.hi 0 65535
  · go_wp2_with (first
      | (go_at_call 63; refine (within_any _ _ _ _).mono ?_; rintro e w' ⟨rfl, rfl⟩)
      | (go_at_call 64; refine (port_any _ _).mono ?_; rintro e w' ⟨rfl, rfl⟩))
    go_ret
    exact ⟨by simp [prtOk, hq1, hq2, hq3], (by repeat (first | exact Below.refl _ _ | assumption | apply Ext.alloc | apply Ext.drewN | apply Ext.drew | refine Ext.trans ?_ (by assumption)))⟩
  cases hq4 : decide (p.lo ≤ p.hi)
  · go_wp2_with (first
      | (go_at_call 63; refine (within_any _ _ _ _).mono ?_; rintro e w' ⟨rfl, rfl⟩)
      | (go_at_call 64; refine (port_any _ _).mono ?_; rintro e w' ⟨rfl, rfl⟩))
    go_ret
    exact ⟨by simp [prtOk, hq1, hq2, hq3, hq4], (by repeat (first | exact Below.refl _ _ | assumption | apply Ext.alloc | apply Ext.drewN | apply Ext.drew | refine Ext.trans ?_ (by assumption)))⟩
  go_wp2_with (first
    | (go_at_call 63; refine (within_any _ _ _ _).mono ?_; rintro e w' ⟨rfl, rfl⟩)
    | (go_at_call 64; refine (port_any _ _).mono ?_; rintro e w' ⟨rfl, rfl⟩))
  go_ret
  exact ⟨by simp [prtOk, hq1, hq2, hq3, hq4], (by repeat (first | exact Below.refl _ _ | assumption | apply Ext.alloc | apply Ext.drewN | apply Ext.drew | refine Ext.trans ?_ (by assumption)))⟩
theorem pktRight_any (p : DPkt) (w : World) :
    Calls Tryz.prog 36 #[.agg #[.int .i64 p.src, .int .i64 p.dst, .int .i64 p.proto, .int .i64 p.port]] w fun e w' => e = .returned (.bool (pktOk p)) ∧ Below w.heap.size w w' := by
  go_enter Tryz.func36, Tryz.ntmps36
  cases hq1 : btw p.src 0 4294967295
  · go_wp2_with (first
      | (go_at_call 63; refine (within_any _ _ _ _).mono ?_; rintro e w' ⟨rfl, rfl⟩)
      | (go_at_call 62; refine (address_any _ _).mono ?_; rintro e w' ⟨rfl, rfl⟩)
      | (go_at_call 64; refine (port_any _ _).mono ?_; rintro e w' ⟨rfl, rfl⟩))
    go_ret
    exact ⟨by simp [pktOk, hq1], (by repeat (first | exact Below.refl _ _ | assumption | apply Ext.alloc | apply Ext.drewN | apply Ext.drew | refine Ext.trans ?_ (by assumption)))⟩
  cases hq2 : btw p.dst 0 4294967295
  · go_wp2_with (first
      | (go_at_call 63; refine (within_any _ _ _ _).mono ?_; rintro e w' ⟨rfl, rfl⟩)
      | (go_at_call 62; refine (address_any _ _).mono ?_; rintro e w' ⟨rfl, rfl⟩)
      | (go_at_call 64; refine (port_any _ _).mono ?_; rintro e w' ⟨rfl, rfl⟩))
    go_ret
    exact ⟨by simp [pktOk, hq1, hq2], (by repeat (first | exact Below.refl _ _ | assumption | apply Ext.alloc | apply Ext.drewN | apply Ext.drew | refine Ext.trans ?_ (by assumption)))⟩
  cases hq3 : btw p.proto 1 2
  · go_wp2_with (first
      | (go_at_call 63; refine (within_any _ _ _ _).mono ?_; rintro e w' ⟨rfl, rfl⟩)
      | (go_at_call 62; refine (address_any _ _).mono ?_; rintro e w' ⟨rfl, rfl⟩)
      | (go_at_call 64; refine (port_any _ _).mono ?_; rintro e w' ⟨rfl, rfl⟩))
    go_ret
    exact ⟨by simp [pktOk, hq1, hq2, hq3], (by repeat (first | exact Below.refl _ _ | assumption | apply Ext.alloc | apply Ext.drewN | apply Ext.drew | refine Ext.trans ?_ (by assumption)))⟩
  cases hq4 : btw p.port 0 65535
  · go_wp2_with (first
      | (go_at_call 63; refine (within_any _ _ _ _).mono ?_; rintro e w' ⟨rfl, rfl⟩)
      | (go_at_call 62; refine (address_any _ _).mono ?_; rintro e w' ⟨rfl, rfl⟩)
      | (go_at_call 64; refine (port_any _ _).mono ?_; rintro e w' ⟨rfl, rfl⟩))
    go_ret
    exact ⟨by simp [pktOk, hq1, hq2, hq3, hq4], (by repeat (first | exact Below.refl _ _ | assumption | apply Ext.alloc | apply Ext.drewN | apply Ext.drew | refine Ext.trans ?_ (by assumption)))⟩
  go_wp2_with (first
    | (go_at_call 63; refine (within_any _ _ _ _).mono ?_; rintro e w' ⟨rfl, rfl⟩)
    | (go_at_call 62; refine (address_any _ _).mono ?_; rintro e w' ⟨rfl, rfl⟩)
    | (go_at_call 64; refine (port_any _ _).mono ?_; rintro e w' ⟨rfl, rfl⟩))
  go_ret
  exact ⟨by simp [pktOk, hq1, hq2, hq3, hq4], (by repeat (first | exact Below.refl _ _ | assumption | apply Ext.alloc | apply Ext.drewN | apply Ext.drew | refine Ext.trans ?_ (by assumption)))⟩
end Go.Proofs.YtmkjlhplgcifiaaGreat
namespace Go.Proofs.YtmkjlhplgcifiaaGreat
open Go.ChangeShapes Go.WideShapes Go.ChangeAt Go.RowKit
set_option linter.unusedVariables false
set_option linter.unusedSimpArgs false
theorem eqg_blk : Tryz.prog.eqGuardType Tryz.prog.depth 47 = false := by kernel_rfl
theorem std_blk : Tryz.prog.stoodInHeld 47 = false := by kernel_rfl
theorem eqg_pod : Tryz.prog.eqGuardType Tryz.prog.depth 54 = false := by kernel_rfl
theorem std_pod : Tryz.prog.stoodInHeld 54 = false := by kernel_rfl
theorem eqg_sel : Tryz.prog.eqGuardType Tryz.prog.depth 56 = false := by kernel_rfl
theorem std_sel : Tryz.prog.stoodInHeld 56 = false := by kernel_rfl
theorem eqg_prt : Tryz.prog.eqGuardType Tryz.prog.depth 109 = false := by kernel_rfl
theorem std_prt : Tryz.prog.stoodInHeld 109 = false := by kernel_rfl
attribute [local go_sem] eqg_blk std_blk eqg_pod std_pod eqg_sel std_sel eqg_prt std_prt
theorem eql_blk (a b c d : Int) (w : World) : (binOp .eql 47 (.agg #[.int .i64 a, .int .i64 b]) (.agg #[.int .i64 c, .int .i64 d])).run Tryz.prog w = .ok (.bool (decide (a = c) && decide (b = d))) w := by
  by_cases h1 : a = c <;> by_cases h2 : b = d <;> simp [go_sem, h1, h2]
theorem eql_sel (a b c d : Int) (w : World) : (binOp .eql 56 (.agg #[.int .i64 a, .int .i64 b]) (.agg #[.int .i64 c, .int .i64 d])).run Tryz.prog w = .ok (.bool (decide (a = c) && decide (b = d))) w := by
  by_cases h1 : a = c <;> by_cases h2 : b = d <;> simp [go_sem, h1, h2]
theorem neq_sel (a b c d : Int) (w : World) : (binOp .neq 56 (.agg #[.int .i64 a, .int .i64 b]) (.agg #[.int .i64 c, .int .i64 d])).run Tryz.prog w = .ok (.bool (!(decide (a = c) && decide (b = d)))) w := by
  by_cases h1 : a = c <;> by_cases h2 : b = d <;> simp [go_sem, h1, h2]
theorem eql_prt (a b c d e f : Int) (w : World) : (binOp .eql 109 (.agg #[.int .i64 a, .int .i64 b, .int .i64 c]) (.agg #[.int .i64 d, .int .i64 e, .int .i64 f])).run Tryz.prog w = .ok (.bool (decide (a = d) && decide (b = e) && decide (c = f))) w := by
  by_cases h1 : a = d <;> by_cases h2 : b = e <;> by_cases h3 : c = f <;> simp [go_sem, h1, h2, h3]
theorem eql_pod (a b c d e f g h : Int) (w : World) : (binOp .eql 54 (.agg #[.int .i64 a, .int .i64 b, .int .i64 c, .int .i64 d]) (.agg #[.int .i64 e, .int .i64 f, .int .i64 g, .int .i64 h])).run Tryz.prog w = .ok (.bool (decide (a = e) && decide (b = f) && decide (c = g) && decide (d = h))) w := by
  by_cases h1 : a = e <;> by_cases h2 : b = f <;> by_cases h3 : c = g <;> by_cases h4 : d = h <;> simp [go_sem, h1, h2, h3, h4]
attribute [local go_sem ↓] eql_blk eql_sel neq_sel eql_prt eql_pod
end Go.Proofs.YtmkjlhplgcifiaaGreat
