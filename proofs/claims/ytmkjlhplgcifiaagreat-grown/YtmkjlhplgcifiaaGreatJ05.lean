/-
  The generic loops of package list, at each element type.
  The generic loops of package list, at each element type.
-/
import Derived.Test.YtmkjlhplgcifiaaGreatJ04
namespace Go.Proofs.YtmkjlhplgcifiaaGreat
open Go.ChangeShapes Go.WideShapes Go.ChangeAt Go.RowKit
attribute [local simp] World.cell?_grow
attribute [local go_sem] World.cell?_grow
attribute [local go_sem] eqg_blk std_blk eqg_pod std_pod eqg_sel std_sel eqg_prt std_prt
attribute [local go_sem ↓] eql_blk eql_sel neq_sel eql_prt eql_pod
set_option linter.unusedVariables false
set_option linter.unusedSimpArgs false
theorem all_false {α : Type} {l : List α} {f : α → Bool} {k : Nat} {x : α} (h : l[k]? = some x) (hf : f x = false) : l.all f = false := by
  rw [Bool.eq_false_iff]
  intro h2
  have := List.all_eq_true.1 h2 x (List.mem_of_getElem? h)
  rw [hf] at this
  cases this
theorem any_true {α : Type} {l : List α} {f : α → Bool} {k : Nat} {x : α} (h : l[k]? = some x) (hf : f x = true) : l.any f = true :=
  List.any_eq_true.2 ⟨x, List.mem_of_getElem? h, hf⟩
theorem take_all {α : Type} {l : List α} {f : α → Bool} {k : Nat} {x : α} (h : l[k]? = some x) (hall : (l.take k).all f = true) (hf : f x = true) : (l.take (k + 1)).all f = true := by
  rw [List.take_add_one, h, List.all_append, hall]; simp [hf]
theorem take_any {α : Type} {l : List α} {f : α → Bool} {k : Nat} {x : α} (h : l[k]? = some x) (hall : (l.take k).any f = false) (hf : f x = false) : (l.take (k + 1)).any f = false := by
  rw [List.take_add_one, h, List.any_append, hall]; simp [hf]
theorem rdBlks.to {w w' : World} {a : Option Addr} {l : List DBlk} (h : rdBlks w.heap.size w a l) (hb : Below w.heap.size w w') : rdBlks w'.heap.size w' a l := rdBlks.ext hb hb.size h
theorem rdPods.to {w w' : World} {a : Option Addr} {l : List DPod} (h : rdPods w.heap.size w a l) (hb : Below w.heap.size w w') : rdPods w'.heap.size w' a l := rdPods.ext hb hb.size h
theorem rdPorts.to {w w' : World} {a : Option Addr} {l : List DPort} (h : rdPorts w.heap.size w a l) (hb : Below w.heap.size w w') : rdPorts w'.heap.size w' a l := rdPorts.ext hb hb.size h
theorem rdPeers.to {w w' : World} {a : Option Addr} {l : List DPeer} (h : rdPeers w.heap.size w a l) (hb : Below w.heap.size w w') : rdPeers w'.heap.size w' a l := rdPeers.ext hb hb.size h
theorem rdRules.to {w w' : World} {a : Option Addr} {l : List DRule} (h : rdRules w.heap.size w a l) (hb : Below w.heap.size w w') : rdRules w'.heap.size w' a l := rdRules.ext hb hb.size h
theorem rdPols.to {w w' : World} {a : Option Addr} {l : List DPol} (h : rdPols w.heap.size w a l) (hb : Below w.heap.size w w') : rdPols w'.heap.size w' a l := rdPols.ext hb hb.size h
theorem allBlk (f : DBlk → Bool) (a : Option Addr) (cap : Nat) (l : List DBlk) (w : World) (hl : rdBlks w.heap.size w a l)
    (hK : ∀ (x : DBlk) (w1 : World), x ∈ l → Below w.heap.size w w1 → Calls Tryz.prog 219 #[.agg #[.int .i64 x.base, .int .i64 x.bits]] w1 fun e w2 => e = .returned (.bool (f x)) ∧ Below w1.heap.size w1 w2) :
    Calls Tryz.prog 221 #[.slice a l.length cap, .func (.func 219) #[] #[]] w fun e w' => e = .returned (.bool (l.all f)) ∧ Below w.heap.size w w' := by
  have HK := hid hK
  obtain ⟨hlen, hl⟩ := hl
  have HL := hid hl
  clear hl hK
  go_enter Tryz.func221, Tryz.ntmps221
  go_wp2
  go_loopw [9] (fun i wr => ∃ k : Nat, k ≤ l.length ∧ i = .int .i64 k ∧ (l.take k).all f = true ∧ Below w.heap.size w wr) (fun i _ => l.length - (intOf i).toNat)
  case atStart => exact ⟨0, Nat.zero_le _, rfl, rfl, Below.refl _ _⟩
  case round =>
    obtain ⟨k, hk, rfl, hall, hbw⟩ := hrel
    have HA := hid hall
    clear hall
    by_cases hlt : k < l.length
    · obtain ⟨hc, hf⟩ := bcell hbw
      obtain ⟨x, hxk⟩ : ∃ x, l[k]? = some x := ⟨l[k], by simp [hlt]⟩
      have HX := hid hxk
      clear hxk
      obtain ⟨b, off, rfl, hb, c0, c1⟩ := HL.out k x HX.out
      cases hx : f x
      · go_wp2_with (go_at_call 219; refine (HK.out x _ (List.mem_of_getElem? HX.out) (by repeat (first | exact Below.refl _ _ | assumption | apply Ext.alloc | apply Ext.drewN | apply Ext.drew | refine Ext.trans ?_ (by assumption)))).mono ?_; rintro e w1 ⟨rfl, hb1⟩)
        go_ret
        exact ⟨ret_bool (by rw [all_false HX.out hx]), (by repeat (first | exact Below.refl _ _ | assumption | apply Ext.alloc | apply Ext.drewN | apply Ext.drew | refine Ext.trans ?_ (by assumption)))⟩
      · go_wp2_with (go_at_call 219; refine (HK.out x _ (List.mem_of_getElem? HX.out) (by repeat (first | exact Below.refl _ _ | assumption | apply Ext.alloc | apply Ext.drewN | apply Ext.drew | refine Ext.trans ?_ (by assumption)))).mono ?_; rintro e w1 ⟨rfl, hb1⟩)
        exact ⟨⟨k + 1, by omega, by go_num, take_all HX.out HA.out hx, (by repeat (first | exact Below.refl _ _ | assumption | apply Ext.alloc | apply Ext.drewN | apply Ext.drew | refine Ext.trans ?_ (by assumption)))⟩, by simp [intOf]; omega⟩
    · go_wp2
      go_ret
      have := HA.out
      rw [List.take_of_length_le (by omega)] at this
      exact ⟨ret_bool (by rw [this]), hbw⟩
theorem fewBlk (f : DBlk → Bool) (a : Option Addr) (cap : Nat) (l : List DBlk) (most : Int) (w : World) (hl : rdBlks w.heap.size w a l)
    (hK : ∀ (x : DBlk) (w1 : World), x ∈ l → Below w.heap.size w w1 → Calls Tryz.prog 219 #[.agg #[.int .i64 x.base, .int .i64 x.bits]] w1 fun e w2 => e = .returned (.bool (f x)) ∧ Below w1.heap.size w1 w2) :
    Calls Tryz.prog 220 #[.slice a l.length cap, .int .i64 most, .func (.func 219) #[] #[]] w fun e w' => e = .returned (.bool (few l most f)) ∧ Below w.heap.size w w' := by
  have HK := hid hK
  have HL := hid hl
  have hlen := hl.1
  clear hK hl
  by_cases h : (l.length : Int) ≤ most
  · have HF := hid (show few l most f = l.all f by simp [few, h])
    go_enter Tryz.func220, Tryz.ntmps220
    go_wp2_with (go_at_call 221; refine (allBlk f _ _ _ _ HL.out HK.out).mono ?_; rintro e w1 ⟨rfl, hb1⟩)
    go_ret
    exact ⟨ret_bool (by rw [HF.out]), (by repeat (first | exact Below.refl _ _ | assumption | apply Ext.alloc | apply Ext.drewN | apply Ext.drew | refine Ext.trans ?_ (by assumption)))⟩
  · have HF := hid (show few l most f = false by simp [few, h])
    go_enter Tryz.func220, Tryz.ntmps220
    go_wp2
    go_ret
    exact ⟨ret_bool (by rw [HF.out]), (by repeat (first | exact Below.refl _ _ | assumption | apply Ext.alloc | apply Ext.drewN | apply Ext.drew | refine Ext.trans ?_ (by assumption)))⟩
theorem anyBlk (f : DBlk → Bool) (k0 : Value) (a : Option Addr) (cap : Nat) (l : List DBlk) (w : World) (hl : rdBlks w.heap.size w a l)
    (hK : ∀ (x : DBlk) (w1 : World), x ∈ l → Below w.heap.size w w1 → Calls Tryz.prog 234 #[.agg #[.int .i64 x.base, .int .i64 x.bits], k0] w1 fun e w2 => e = .returned (.bool (f x)) ∧ Below w1.heap.size w1 w2) :
    Calls Tryz.prog 235 #[.slice a l.length cap, .func (.func 234) #[] #[k0]] w fun e w' => e = .returned (.bool (l.any f)) ∧ Below w.heap.size w w' := by
  have HK := hid hK
  obtain ⟨hlen, hl⟩ := hl
  have HL := hid hl
  clear hl hK
  go_enter Tryz.func235, Tryz.ntmps235
  go_wp2
  go_loopw [9] (fun i wr => ∃ k : Nat, k ≤ l.length ∧ i = .int .i64 k ∧ (l.take k).any f = false ∧ Below w.heap.size w wr) (fun i _ => l.length - (intOf i).toNat)
  case atStart => exact ⟨0, Nat.zero_le _, rfl, rfl, Below.refl _ _⟩
  case round =>
    obtain ⟨k, hk, rfl, hall, hbw⟩ := hrel
    have HA := hid hall
    clear hall
    by_cases hlt : k < l.length
    · obtain ⟨hc, hf⟩ := bcell hbw
      obtain ⟨x, hxk⟩ : ∃ x, l[k]? = some x := ⟨l[k], by simp [hlt]⟩
      have HX := hid hxk
      clear hxk
      obtain ⟨b, off, rfl, hb, c0, c1⟩ := HL.out k x HX.out
      cases hx : f x
      · go_wp2_with (go_at_call 234; refine (HK.out x _ (List.mem_of_getElem? HX.out) (by repeat (first | exact Below.refl _ _ | assumption | apply Ext.alloc | apply Ext.drewN | apply Ext.drew | refine Ext.trans ?_ (by assumption)))).mono ?_; rintro e w1 ⟨rfl, hb1⟩)
        exact ⟨⟨k + 1, by omega, by go_num, take_any HX.out HA.out hx, (by repeat (first | exact Below.refl _ _ | assumption | apply Ext.alloc | apply Ext.drewN | apply Ext.drew | refine Ext.trans ?_ (by assumption)))⟩, by simp [intOf]; omega⟩
      · go_wp2_with (go_at_call 234; refine (HK.out x _ (List.mem_of_getElem? HX.out) (by repeat (first | exact Below.refl _ _ | assumption | apply Ext.alloc | apply Ext.drewN | apply Ext.drew | refine Ext.trans ?_ (by assumption)))).mono ?_; rintro e w1 ⟨rfl, hb1⟩)
        go_ret
        exact ⟨ret_bool (by rw [any_true HX.out hx]), (by repeat (first | exact Below.refl _ _ | assumption | apply Ext.alloc | apply Ext.drewN | apply Ext.drew | refine Ext.trans ?_ (by assumption)))⟩
    · go_wp2
      go_ret
      have := HA.out
      rw [List.take_of_length_le (by omega)] at this
      exact ⟨ret_bool (by rw [this]), hbw⟩
end Go.Proofs.YtmkjlhplgcifiaaGreat
namespace Go.Proofs.YtmkjlhplgcifiaaGreat
open Go.ChangeShapes Go.WideShapes Go.ChangeAt Go.RowKit
attribute [local simp] World.cell?_grow
attribute [local go_sem] World.cell?_grow
attribute [local go_sem] eqg_blk std_blk eqg_pod std_pod eqg_sel std_sel eqg_prt std_prt
attribute [local go_sem ↓] eql_blk eql_sel neq_sel eql_prt eql_pod
set_option linter.unusedVariables false
set_option linter.unusedSimpArgs false
theorem allPort (f : DPort → Bool) (a : Option Addr) (cap : Nat) (l : List DPort) (w : World) (hl : rdPorts w.heap.size w a l)
    (hK : ∀ (x : DPort) (w1 : World), x ∈ l → Below w.heap.size w w1 → Calls Tryz.prog 153 #[.agg #[.int .i64 x.proto, .int .i64 x.lo, .int .i64 x.hi]] w1 fun e w2 => e = .returned (.bool (f x)) ∧ Below w1.heap.size w1 w2) :
    Calls Tryz.prog 173 #[.slice a l.length cap, .func (.func 153) #[] #[]] w fun e w' => e = .returned (.bool (l.all f)) ∧ Below w.heap.size w w' := by
  have HK := hid hK
  obtain ⟨hlen, hl⟩ := hl
  have HL := hid hl
  clear hl hK
  go_enter Tryz.func173, Tryz.ntmps173
  go_wp2
  go_loopw [9] (fun i wr => ∃ k : Nat, k ≤ l.length ∧ i = .int .i64 k ∧ (l.take k).all f = true ∧ Below w.heap.size w wr) (fun i _ => l.length - (intOf i).toNat)
  case atStart => exact ⟨0, Nat.zero_le _, rfl, rfl, Below.refl _ _⟩
  case round =>
    obtain ⟨k, hk, rfl, hall, hbw⟩ := hrel
    have HA := hid hall
    clear hall
    by_cases hlt : k < l.length
    · obtain ⟨hc, hf⟩ := bcell hbw
      obtain ⟨x, hxk⟩ : ∃ x, l[k]? = some x := ⟨l[k], by simp [hlt]⟩
      have HX := hid hxk
      clear hxk
      obtain ⟨b, off, rfl, hb, c0, c1, c2⟩ := HL.out k x HX.out
      cases hx : f x
      · go_wp2_with (go_at_call 153; refine (HK.out x _ (List.mem_of_getElem? HX.out) (by repeat (first | exact Below.refl _ _ | assumption | apply Ext.alloc | apply Ext.drewN | apply Ext.drew | refine Ext.trans ?_ (by assumption)))).mono ?_; rintro e w1 ⟨rfl, hb1⟩)
        go_ret
        exact ⟨ret_bool (by rw [all_false HX.out hx]), (by repeat (first | exact Below.refl _ _ | assumption | apply Ext.alloc | apply Ext.drewN | apply Ext.drew | refine Ext.trans ?_ (by assumption)))⟩
      · go_wp2_with (go_at_call 153; refine (HK.out x _ (List.mem_of_getElem? HX.out) (by repeat (first | exact Below.refl _ _ | assumption | apply Ext.alloc | apply Ext.drewN | apply Ext.drew | refine Ext.trans ?_ (by assumption)))).mono ?_; rintro e w1 ⟨rfl, hb1⟩)
        exact ⟨⟨k + 1, by omega, by go_num, take_all HX.out HA.out hx, (by repeat (first | exact Below.refl _ _ | assumption | apply Ext.alloc | apply Ext.drewN | apply Ext.drew | refine Ext.trans ?_ (by assumption)))⟩, by simp [intOf]; omega⟩
    · go_wp2
      go_ret
      have := HA.out
      rw [List.take_of_length_le (by omega)] at this
      exact ⟨ret_bool (by rw [this]), hbw⟩
theorem fewPort (f : DPort → Bool) (a : Option Addr) (cap : Nat) (l : List DPort) (most : Int) (w : World) (hl : rdPorts w.heap.size w a l)
    (hK : ∀ (x : DPort) (w1 : World), x ∈ l → Below w.heap.size w w1 → Calls Tryz.prog 153 #[.agg #[.int .i64 x.proto, .int .i64 x.lo, .int .i64 x.hi]] w1 fun e w2 => e = .returned (.bool (f x)) ∧ Below w1.heap.size w1 w2) :
    Calls Tryz.prog 152 #[.slice a l.length cap, .int .i64 most, .func (.func 153) #[] #[]] w fun e w' => e = .returned (.bool (few l most f)) ∧ Below w.heap.size w w' := by
  have HK := hid hK
  have HL := hid hl
  have hlen := hl.1
  clear hK hl
  by_cases h : (l.length : Int) ≤ most
  · have HF := hid (show few l most f = l.all f by simp [few, h])
    go_enter Tryz.func152, Tryz.ntmps152
    go_wp2_with (go_at_call 173; refine (allPort f _ _ _ _ HL.out HK.out).mono ?_; rintro e w1 ⟨rfl, hb1⟩)
    go_ret
    exact ⟨ret_bool (by rw [HF.out]), (by repeat (first | exact Below.refl _ _ | assumption | apply Ext.alloc | apply Ext.drewN | apply Ext.drew | refine Ext.trans ?_ (by assumption)))⟩
  · have HF := hid (show few l most f = false by simp [few, h])
    go_enter Tryz.func152, Tryz.ntmps152
    go_wp2
    go_ret
    exact ⟨ret_bool (by rw [HF.out]), (by repeat (first | exact Below.refl _ _ | assumption | apply Ext.alloc | apply Ext.drewN | apply Ext.drew | refine Ext.trans ?_ (by assumption)))⟩
theorem anyPort (f : DPort → Bool) (k0 : Value) (a : Option Addr) (cap : Nat) (l : List DPort) (w : World) (hl : rdPorts w.heap.size w a l)
    (hK : ∀ (x : DPort) (w1 : World), x ∈ l → Below w.heap.size w w1 → Calls Tryz.prog 159 #[.agg #[.int .i64 x.proto, .int .i64 x.lo, .int .i64 x.hi], k0] w1 fun e w2 => e = .returned (.bool (f x)) ∧ Below w1.heap.size w1 w2) :
    Calls Tryz.prog 175 #[.slice a l.length cap, .func (.func 159) #[] #[k0]] w fun e w' => e = .returned (.bool (l.any f)) ∧ Below w.heap.size w w' := by
  have HK := hid hK
  obtain ⟨hlen, hl⟩ := hl
  have HL := hid hl
  clear hl hK
  go_enter Tryz.func175, Tryz.ntmps175
  go_wp2
  go_loopw [9] (fun i wr => ∃ k : Nat, k ≤ l.length ∧ i = .int .i64 k ∧ (l.take k).any f = false ∧ Below w.heap.size w wr) (fun i _ => l.length - (intOf i).toNat)
  case atStart => exact ⟨0, Nat.zero_le _, rfl, rfl, Below.refl _ _⟩
  case round =>
    obtain ⟨k, hk, rfl, hall, hbw⟩ := hrel
    have HA := hid hall
    clear hall
    by_cases hlt : k < l.length
    · obtain ⟨hc, hf⟩ := bcell hbw
      obtain ⟨x, hxk⟩ : ∃ x, l[k]? = some x := ⟨l[k], by simp [hlt]⟩
      have HX := hid hxk
      clear hxk
      obtain ⟨b, off, rfl, hb, c0, c1, c2⟩ := HL.out k x HX.out
      cases hx : f x
      · go_wp2_with (go_at_call 159; refine (HK.out x _ (List.mem_of_getElem? HX.out) (by repeat (first | exact Below.refl _ _ | assumption | apply Ext.alloc | apply Ext.drewN | apply Ext.drew | refine Ext.trans ?_ (by assumption)))).mono ?_; rintro e w1 ⟨rfl, hb1⟩)
        exact ⟨⟨k + 1, by omega, by go_num, take_any HX.out HA.out hx, (by repeat (first | exact Below.refl _ _ | assumption | apply Ext.alloc | apply Ext.drewN | apply Ext.drew | refine Ext.trans ?_ (by assumption)))⟩, by simp [intOf]; omega⟩
      · go_wp2_with (go_at_call 159; refine (HK.out x _ (List.mem_of_getElem? HX.out) (by repeat (first | exact Below.refl _ _ | assumption | apply Ext.alloc | apply Ext.drewN | apply Ext.drew | refine Ext.trans ?_ (by assumption)))).mono ?_; rintro e w1 ⟨rfl, hb1⟩)
        go_ret
        exact ⟨ret_bool (by rw [any_true HX.out hx]), (by repeat (first | exact Below.refl _ _ | assumption | apply Ext.alloc | apply Ext.drewN | apply Ext.drew | refine Ext.trans ?_ (by assumption)))⟩
    · go_wp2
      go_ret
      have := HA.out
      rw [List.take_of_length_le (by omega)] at this
      exact ⟨ret_bool (by rw [this]), hbw⟩
theorem eoaPort (f : DPort → Bool) (k0 : Value) (a : Option Addr) (cap : Nat) (l : List DPort) (w : World) (hl : rdPorts w.heap.size w a l)
    (hK : ∀ (x : DPort) (w1 : World), x ∈ l → Below w.heap.size w w1 → Calls Tryz.prog 159 #[.agg #[.int .i64 x.proto, .int .i64 x.lo, .int .i64 x.hi], k0] w1 fun e w2 => e = .returned (.bool (f x)) ∧ Below w1.heap.size w1 w2) :
    Calls Tryz.prog 158 #[.slice a l.length cap, .func (.func 159) #[] #[k0]] w fun e w' => e = .returned (.bool (eoa l f)) ∧ Below w.heap.size w w' := by
  have HK := hid hK
  have HL := hid hl
  have hlen := hl.1
  clear hK hl
  by_cases h : l.length = 0
  · have HF := hid (show eoa l f = true by simp [eoa, h])
    have h2 : ((l.length : Int) == 0) = true := by simp [h]
    go_enter Tryz.func158, Tryz.ntmps158
    go_wp2
    go_ret
    exact ⟨ret_bool (by rw [HF.out]), (by repeat (first | exact Below.refl _ _ | assumption | apply Ext.alloc | apply Ext.drewN | apply Ext.drew | refine Ext.trans ?_ (by assumption)))⟩
  · have HF := hid (show eoa l f = l.any f by simp [eoa, h])
    have h2 : ((l.length : Int) == 0) = false := by simp [h]
    go_enter Tryz.func158, Tryz.ntmps158
    go_wp2_with (go_at_call 175; refine (anyPort f _ _ _ _ _ HL.out HK.out).mono ?_; rintro e w1 ⟨rfl, hb1⟩)
    go_ret
    exact ⟨ret_bool (by rw [HF.out]), (by repeat (first | exact Below.refl _ _ | assumption | apply Ext.alloc | apply Ext.drewN | apply Ext.drew | refine Ext.trans ?_ (by assumption)))⟩
end Go.Proofs.YtmkjlhplgcifiaaGreat
