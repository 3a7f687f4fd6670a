/-
  The pod with an address.
-/
import Derived.Test.YtmkjlhplgcifiaaL6
import Derived.Test.YtmkjlhplgcifiaaPast
namespace Go.Proofs.Ytmkjlhplgcifiaa
open Go.ChangeShapes Go.WideShapes Go.ChangeAt Go.RowKit
attribute [local simp] World.cell?_grow
attribute [local go_sem] World.cell?_grow
attribute [local simp] World.cell?_alloc_there
attribute [local go_sem] World.cell?_alloc_there
attribute [local go_sem] eqg_blk std_blk eqg_pod std_pod eqg_sel std_sel eqg_prt std_prt
attribute [local go_sem ↓] eql_blk eql_sel neq_sel eql_prt eql_pod
attribute [local go_sem ↓] met_in1 met_in2 met_re1 met_re2
set_option linter.unusedVariables false
set_option linter.unusedSimpArgs false

def atV : Option DPod → Value
  | some p => .tuple #[.agg #[.int .i64 p.host, .int .i64 p.ip, .int .i64 p.space, .int .i64 p.labels], .bool true]
  | none => .tuple #[.agg #[.int .i64 0, .int .i64 0, .int .i64 0, .int .i64 0], .bool false]
theorem podAt_at {l : List DPod} {k : Nat} {x : DPod} {ip : Int} (h : l[k]? = some x) (hb : ∀ j y, j < k → l[j]? = some y → ¬ y.ip = ip) (hx : x.ip = ip) : podAt l ip = some x := by
  unfold podAt
  rw [List.find?_eq_some_iff_getElem]
  obtain ⟨hk, he⟩ := List.getElem?_eq_some_iff.1 h
  refine ⟨by simp [hx], k, hk, he, fun j hj => ?_⟩
  have := hb j l[j] hj (by simp)
  simp [this]
theorem podAt_none {l : List DPod} {ip : Int} (hb : ∀ j y, j < l.length → l[j]? = some y → ¬ y.ip = ip) : podAt l ip = none := by
  unfold podAt
  rw [List.find?_eq_none]
  intro x hx
  obtain ⟨j, hj, he⟩ := List.getElem_of_mem hx
  have := hb j x hj (by rw [List.getElem?_eq_getElem hj, he])
  simp [this]

set_option maxHeartbeats 1000000 in
theorem at_any (a : Option Addr) (cap : Nat) (l : List DPod) (ip : Int) (w : World) (hl : rdPods w.heap.size w a l) :
    Calls Try.prog 31 #[.slice a l.length cap, .int .i64 ip] w fun e w' => e = .returned (atV (podAt l ip)) ∧ Below w.heap.size w w' := by
  obtain ⟨hlen, hl⟩ := hl
  have HL := hid hl
  clear hl
  go_enter Try.func31, Try.ntmps31
  go_wp2
  go_loopw [10] (fun i wr => ∃ k : Nat, k ≤ l.length ∧ i = .int .i64 k ∧ (∀ j y, j < k → l[j]? = some y → ¬ y.ip = ip) ∧ Below (w.alloc (Obj.cells #[.int .i64 0, .int .i64 0, .int .i64 0, .int .i64 0] 32)).heap.size (w.alloc (Obj.cells #[.int .i64 0, .int .i64 0, .int .i64 0, .int .i64 0] 32)) wr) (fun i _ => l.length - (intOf i).toNat)
  case atStart => exact ⟨0, Nat.zero_le _, rfl, fun j y hj => absurd hj (Nat.not_lt_zero _), Below.refl _ _⟩
  case round =>
    obtain ⟨k, hk, rfl, hall, hbw⟩ := hrel
    have HA := hid hall
    clear hall
    obtain ⟨hc, hf⟩ := bcell hbw
    have hz := hb_lt hbw
    have HW := hid hbw
    have hB : Below w.heap.size w wr := (Below.refl _ _ |>.alloc (Nat.le_refl _) _).trans (hbw.mono (by simp))
    by_cases hlt : k < l.length
    · obtain ⟨x, hxk⟩ : ∃ x, l[k]? = some x := ⟨l[k], by simp [hlt]⟩
      have HX := hid hxk
      clear hxk
      obtain ⟨b, off, rfl, hb, c0, c1, c2, c3⟩ := HL.out k x HX.out
      have d0 := cell_to c0 hB
      have d1 := cell_to c1 hB
      have d2 := cell_to c2 hB
      have d3 := cell_to c3 hB
      have z0 : wr.cell? ⟨w.heap.size, 0, none⟩ = some (.int .i64 0) := cell_to (by simp [go_sem]) HW.out
      have z1 : wr.cell? ⟨w.heap.size, 1, none⟩ = some (.int .i64 0) := cell_to (by simp [go_sem]) HW.out
      have z2 : wr.cell? ⟨w.heap.size, 2, none⟩ = some (.int .i64 0) := cell_to (by simp [go_sem]) HW.out
      have z3 : wr.cell? ⟨w.heap.size, 3, none⟩ = some (.int .i64 0) := cell_to (by simp [go_sem]) HW.out
      clear c0 c1 c2 c3 hc
      cases hx : (x.ip == ip)
      · go_wp2
        exact ⟨⟨k + 1, by omega, by go_num, fun j y hj hy => by
            rcases Nat.lt_succ_iff_lt_or_eq.1 hj with h | h
            · exact HA.out j y h hy
            · subst h
              rw [HX.out] at hy
              cases hy
              simpa using hx, (by repeat (first | exact Below.refl _ _ | assumption | apply Ext.alloc | apply Ext.drewN | apply Ext.drew | refine Ext.trans ?_ (by assumption)))⟩, by simp [intOf]; omega⟩
      · have HF := hid (podAt_at HX.out HA.out (by simpa using hx))
        go_wp2
        rw [HF.out]
        exact bodyPost_ret (v := .tuple #[.agg #[.int .i64 x.host, .int .i64 x.ip, .int .i64 x.space, .int .i64 x.labels], .bool true]) (by simp [results, Try.results31, go_sem, hz, z0, z1, z2, z3]) rfl ⟨rfl, Ext.alloc ((((hB.setCell (Nat.le_refl _) _).setCell (Nat.le_refl _) _).setCell (Nat.le_refl _) _).setCell (Nat.le_refl _) _) _⟩
    · have HF := hid (podAt_none (l := l) (ip := ip) (fun j y hj => HA.out j y (by omega)))
      have z0 : wr.cell? ⟨w.heap.size, 0, none⟩ = some (.int .i64 0) := cell_to (by simp [go_sem]) HW.out
      have z1 : wr.cell? ⟨w.heap.size, 1, none⟩ = some (.int .i64 0) := cell_to (by simp [go_sem]) HW.out
      have z2 : wr.cell? ⟨w.heap.size, 2, none⟩ = some (.int .i64 0) := cell_to (by simp [go_sem]) HW.out
      have z3 : wr.cell? ⟨w.heap.size, 3, none⟩ = some (.int .i64 0) := cell_to (by simp [go_sem]) HW.out
      clear hc
      go_wp2
      rw [HF.out]
      exact bodyPost_ret (v := .tuple #[.agg #[.int .i64 0, .int .i64 0, .int .i64 0, .int .i64 0], .bool false]) (by simp [results, Try.results31, go_sem, hz, z0, z1, z2, z3]) rfl ⟨rfl, ((((hB.setCell (Nat.le_refl _) _).setCell (Nat.le_refl _) _).setCell (Nat.le_refl _) _).setCell (Nat.le_refl _) _)⟩

theorem taken_any (a : Option Addr) (cap : Nat) (l : List DPod) (ip : Int) (w : World) (hl : rdPods w.heap.size w a l) :
    Calls Try.prog 17 #[.slice a l.length cap, .int .i64 ip] w fun e w' => e = .returned (.bool (podAt l ip).isSome) ∧ Below w.heap.size w w' := by
  have HL := hid hl
  clear hl
  cases hp : podAt l ip with
  | none =>
    have HP := hid hp
    clear hp
    go_enter Try.func17, Try.ntmps17
    go_wp2_with (go_at_call 31; refine (at_any _ _ l _ _ HL.out).mono ?_; rw [HP.out, atV]; rintro e w1 ⟨rfl, hb1⟩; obtain ⟨hc1, hf1⟩ := bcell hb1; have hz1 := hb_lt hb1)
    go_ret
    exact ⟨rfl, (by repeat (first | exact Below.refl _ _ | assumption | apply Ext.alloc | apply Ext.drewN | apply Ext.drew | refine Ext.trans ?_ (by assumption)))⟩
  | some p =>
    have HP := hid hp
    clear hp
    go_enter Try.func17, Try.ntmps17
    go_wp2_with (go_at_call 31; refine (at_any _ _ l _ _ HL.out).mono ?_; rw [HP.out, atV]; rintro e w1 ⟨rfl, hb1⟩; obtain ⟨hc1, hf1⟩ := bcell hb1; have hz1 := hb_lt hb1)
    go_ret
    exact ⟨rfl, (by repeat (first | exact Below.refl _ _ | assumption | apply Ext.alloc | apply Ext.drewN | apply Ext.drew | refine Ext.trans ?_ (by assumption)))⟩
end Go.Proofs.Ytmkjlhplgcifiaa
